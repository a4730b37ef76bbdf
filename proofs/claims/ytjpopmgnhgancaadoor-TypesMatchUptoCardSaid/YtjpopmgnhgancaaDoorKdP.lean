/- The kind of an item in a store. No condition beyond what the theorems state. -/
import Derived.Test.YtjpopmgnhgancaaDoorKdJ
import Derived.Test.YtjpopmgnhgancaaDoorKdK
import Derived.Test.YtjpopmgnhgancaaDoorKdN
import Derived.Test.YtjpopmgnhgancaaDoorKdG
import Derived.Test.YtjpopmgnhgancaaDoorKdM
namespace Go.Proofs.YtjpopmgnhgancaaDoor
open Go.RowKit Go.Lib
set_option maxRecDepth 100000
theorem LaidS.nextO {w0 wr w5 w6 w8 : World} {sb : Nat} {A A6 : Option Addr} {c c6 : Nat} {Al Al8 : Option Addr} {cl c8 : Nat} {us : List Tr} {t2 : Tr} {T : PT} (h : LaidS w0 wr sb A c Al cl us)
    (hb5 : Below wr.heap.size wr w5) (hB6 : Beside sb A w5 A6 w6) (hS6 : StoreAt w6 sb 1000 A6 c6 (layL (plL us) 0 0 ++ T.lay (sizeL (plL us)) 0)) (hin : t2.In (fun b => b < w0.heap.size) w0) (hp : t2.pl = T)
    (hL8 : Along Al w6 Al8 w8) (hO8 : w8.ownsRow w0.heap.size 106 6 (.slice Al8 (sizeL (plL us) + T.size) c8) (sizeL (plL us) + T.size) (rowN (nodesL us 0 0 ++ t2.nodes (sizeL (plL us)) 0)))
    (hf : T.right 0 = true ∧ T.size ≤ 60 ∧ T.bulk ≤ 1048576) : LaidS w0 w8 sb A6 c6 Al8 c8 (us ++ [t2]) := by
  have hsw := h.store.1
  have hz5 := hb5.size
  have hz6 := hB6.2.2.2.1
  have hz8 := hL8.2.2.2.1
  have hb0 := h.below.size
  have hAl : ∀ b, blkOf Al = some b → w0.heap.size ≤ b ∧ b < wr.heap.size := fun b hb => own_lt h.own (by rw [own_blk]; exact hb)
  have hAlb : ∀ b, blkOf A = some b → w0.heap.size ≤ b ∧ b < wr.heap.size := fun b hb => ⟨by have := (StoreAt.lt h.store hb).1; have := h.sbw; omega, (StoreAt.lt h.store hb).2⟩
  -- what is none of the store's and none of the list's stays
  have stay : ∀ b, b < wr.heap.size → b ≠ sb → blkOf A ≠ some b → blkOf Al ≠ some b → w8.heap[b]? = wr.heap[b]? ∧ blkOf A6 ≠ some b ∧ blkOf Al8 ≠ some b := by
    intro b h1 h2 h3 h4
    obtain ⟨e6, n6⟩ := hB6.2.2.2.2 b (by omega) h2 h3
    obtain ⟨e8, n8⟩ := hL8.2.2.2.2 b (by omega) h4
    exact ⟨e8.trans (e6.trans (hb5.block b h1)), n6, n8⟩
  have hA6n : ∀ b, blkOf A6 = some b → blkOf Al ≠ some b := by
    intro b hb hal
    have h1 := hAl b hal
    exact (hB6.2.2.2.2 b (by omega) (fun e => h.nsb (e ▸ hal)) (h.nA b hal)).2 hb
  have hA6l : ∀ b, blkOf A6 = some b → b < w6.heap.size := fun b hb => (StoreAt.lt hS6 hb).2
  refine ⟨?_, ?_, ?_, h.sbw, ?_, ?_, ?_, ?_⟩
  · refine h.below.trans ⟨?_, ?_, ?_, by omega, fun b hb => (stay b (by omega) (by have := h.sbw; omega) (fun e => by have := (hAlb b e).1; omega) (fun e => by have := (hAl b e).1; omega)).1⟩
    · exact hL8.1.trans (hB6.1.trans hb5.os)
    · exact hL8.2.1.trans (hB6.2.1.trans hb5.tape)
    · exact hL8.2.2.1.trans (hB6.2.2.1.trans hb5.output)
  · rw [plL_app, plL_one, layL_app, layL, layL, List.append_nil, Nat.zero_add, hp]
    exact hS6.same hz8 (hL8.2.2.2.2 sb (by omega) h.nsb).1 (fun b hb => (hL8.2.2.2.2 b (by have := hA6l b hb; omega) (hA6n b hb)).1)
  · rw [plL_app, plL_one, sizeL_app, sizeL, sizeL, Nat.add_zero, hp, nodesL_app, nodesL, nodesL, List.append_nil, Nat.zero_add]
    exact hO8
  · exact (hL8.2.2.2.2 sb (by omega) h.nsb).2
  · intro b hb hb6
    have h6 := hA6l b hb6
    exact (hL8.2.2.2.2 b (by omega) (hA6n b hb6)).2 hb
  · refine inL_iff.2 fun t ht => ?_
    rcases List.mem_append.1 ht with ht | ht
    · exact (inL_iff.1 h.trees t ht).keep (fun b hb => ⟨by omega, hb.2.1, (stay b hb.1 hb.2.1 hb.2.2.1 hb.2.2.2).2⟩) (fun p hp' => World.cell?_of_block (stay _ hp'.1 hp'.2.1 hp'.2.2.1 hp'.2.2.2).1)
    · obtain rfl : t = t2 := by simpa using ht
      have hst : ∀ b, b < w0.heap.size → w8.heap[b]? = wr.heap[b]? ∧ blkOf A6 ≠ some b ∧ blkOf Al8 ≠ some b := fun b hb => stay b (by omega) (by have := h.sbw; omega) (fun e => by have := (hAlb b e).1; omega) (fun e => by have := (hAl b e).1; omega)
      exact hin.keep (fun b hb => ⟨by omega, by have := h.sbw; omega, (hst b hb).2⟩) (fun p hp' => (World.cell?_of_block (hst _ hp').1).trans (h.below.cell hp'))
  · intro t ht
    rcases List.mem_append.1 ht with ht | ht
    · exact h.fine t ht
    · obtain rfl : t = t2 := by simpa using ht
      rw [hp]; exact hf
end Go.Proofs.YtjpopmgnhgancaaDoor
namespace Go.Proofs.YtjpopmgnhgancaaDoor
open Go.RowKit Go.Lib
set_option maxRecDepth 100000
set_option maxHeartbeats 8000000
theorem t1_below {w4 w5 wa : World} {t : Tr} (h : t.In (NewB w4 w5) w5) (ha : Below w5.heap.size w5 wa) : t.In (NewB w4 w5) wa := h.below (fun _b hb => hb.2) ha
/-- The trees that are laid: of the first eight those that are right and not great. -/
def goodT (t : PT) : Bool := decide (t.size ≤ 60) && t.right 0
def laidT (L : List PT) (i : Nat) : List PT := (L.take i).filter goodT
theorem laidT_yes {L : List PT} {i : Nat} {t : PT} (h : L[i]? = some t) (hg : goodT t = true) : laidT L (i + 1) = laidT L i ++ [t] := by
  unfold laidT; rw [List.take_add_one, h, List.filter_append]; simp [hg]
theorem laidT_no {L : List PT} {i : Nat} {t : PT} (h : L[i]? = some t) (hg : goodT t = false) : laidT L (i + 1) = laidT L i := by
  unfold laidT; rw [List.take_add_one, h, List.filter_append]; simp [hg]
theorem laid14_any (okA : It → Bool) (A0 : Option Addr) (cap0 nt : Nat) (ts : List Tr) (Ai : Option Addr) (ci ni : Nat) (xs : List It) (w : World) (hT : tabs w) (hR : RdP (fun b => b < w.heap.size) w 5 A0 nt (rowT ts)) (hlen : ts.length = nt) (hin : ∀ t ∈ ts, t.In (fun b => b < w.heap.size) w) (hbk : ∀ t ∈ ts, t.pl.bulk ≤ 1048576)
    (hxs : xs.length = ni) (hni : ni ≤ 1048576) (hI : IRow6 w Ai xs) (HAT : Hid (∀ x ∈ xs, x.m = 0 → ∀ w1, Below w.heap.size w w1 → Calls Tryd.prog 33 #[.agg #[.int .i64 x.k, .int .i64 x.n, .int .i64 x.c, .string x.s, .bool x.b]] w1 fun e w' => e = .returned (.bool (okA x)) ∧ Below w1.heap.size w1 w')) :
    Calls Tryd.prog 12 #[.slice A0 nt cap0, .slice Ai ni ci] w fun e w' => (if xs.all (fun x => decide (0 ≤ x.m) && (decide (x.m ≠ 0) || okA x)) then (∃ sb A c Al cl us, e = .returned (.tuple #[.pointer (some ⟨sb, 0, none⟩), .slice Al (sizeL (plL us)) cl, .bool true]) ∧ LaidS w w' sb A c Al cl us ∧ plL us = laidT (plL ts) 6) else e = .returned (.tuple #[.pointer none, .slice none 0 0, .bool false])) ∧ Below w.heap.size w w' := by
  have HXS := Lib.hid hxs; have HII := Lib.hid hI
  have HT := Lib.hid hT; have HR := Lib.hid hR; have HLEN := Lib.hid hlen; have HIN := Lib.hid hin; have HBK := Lib.hid hbk
  have HNEW := Lib.hid (new_any 1000 w (by decide) (by decide))
  simp only [show ((1000 : Nat) : Int) = 1000 from rfl] at HNEW
  obtain ⟨ok, hok⟩ : ∃ ok, xs.all (fun x => decide (0 ≤ x.m) && (decide (x.m ≠ 0) || okA x)) = ok := ⟨_, rfl⟩
  have HOK := Lib.hid hok
  rw [hok]
  clear hT hR hlen hin hbk hxs hI hok
  go_enter Tryd.func12, Tryd.ntmps12
  go_wp2_with fail
  refine HNEW.out.mono ?_
  rintro e w2 ⟨rfl, rfl⟩
  obtain ⟨w2, hw2⟩ : ∃ w2, w.alloc (.cells #[.int .i64 (1000 : Int), .slice none 0 0] 98) = w2 := ⟨_, rfl⟩
  have hst2 : StoreAt w2 w.heap.size 1000 none 0 [] := by rw [← hw2]; exact new_store 1000 w
  have B2 : Below w.heap.size w w2 := by rw [← hw2]; exact ba (Below.refl _ _)
  have hS0 : LaidS w w2 w.heap.size none 0 none 0 [] := ⟨B2, hst2, World.ownsRow_nil _ _ _ _, Nat.le_refl _, by simp [blkOf], fun b h => by simp [blkOf] at h, by simp [InL], fun t h => nomatch h⟩
  have HS0 := Lib.hid hS0
  simp only [hw2]
  obtain ⟨sb, hsb⟩ : ∃ sb, w.heap.size = sb := ⟨_, rfl⟩
  rw [hsb] at HS0
  have HSB := Lib.hid hsb
  have hsbv : (Value.pointer (some ⟨w.heap.size, 0, none⟩)) = .pointer (some ⟨sb, 0, none⟩) := by rw [hsb]
  simp only [hsbv]
  clear hst2 hS0 hw2 hsb hsbv HNEW
  go_wp2
  go_loopw [9, 10] (fun s6 s7 wx => ∃ (i ln : Nat) (A' : Option Addr) (c' : Nat) (Al : Option Addr) (cl : Nat) (us : List Tr), s6 = .slice Al ln cl ∧ s7 = .int .i64 (i : Int) ∧ i ≤ nt ∧ i ≤ 6 ∧ Hid (us.length ≤ i) ∧ Hid (sizeL (plL us) = ln) ∧ Hid (LaidS w wx sb A' c' Al cl us) ∧ Below w.heap.size w wx ∧ Hid (plL us = laidT (plL ts) i)) (fun _ s7 _ => nt - (intOf s7).toNat)
  case atStart => exact ⟨0, 0, none, 0, none, 0, [], rfl, rfl, by omega, by omega, Lib.hid (by simp), Lib.hid (by rw [plL, sizeL]), HS0, B2, Lib.hid rfl⟩
  case round =>
    obtain ⟨i, ln, A6, c6, Al, cl, us, rfl, rfl, hi, hi8, hul, hln, hS6, hB6, hpl6⟩ := hrel
    clear B2 HS0
    by_cases hlt : i < nt ∧ i < 6
    · obtain ⟨hlt, hl8⟩ := hlt
      have gi : decide ((i : Int) < (nt : Int)) = true := by first | (simp; done) | (simp; omega)
      have gi' : decide (i < nt) = true := by simpa using hlt
      have g8 : decide ((i : Int) < 6) = true := by first | (simp; done) | (simp; omega)
      have hil : i < ts.length := by rw [HLEN.out]; exact hlt
      obtain ⟨t, ht⟩ : ∃ t, ts[i]? = some t := ⟨_, List.getElem?_eq_getElem hil⟩
      have htm := List.mem_of_getElem? ht
      have hin' := (HIN.out t htm).below (fun _ h => h) hB6
      have hbk' := HBK.out t htm
      have hPw : ∀ b, b < w.heap.size → b < wr.heap.size := fun b hb => Nat.lt_of_lt_of_le hb hB6.size
      have HCP := Lib.hid (fun (w3 : World) (hb3 : Below wr.heap.size wr w3) => copy_any t _ w3 (hin'.below hPw hb3) (fun b hb => Nat.lt_of_lt_of_le (hPw b hb) hb3.size) (fit_of_bulk hbk'))
      have HCW := Lib.hid (fun (w3 : World) (hb3 : Below w.heap.size w w3) => copy_any t _ w3 ((HIN.out t htm).below (fun _ h => h) hb3) (fun b hb => Nat.lt_of_lt_of_le hb hb3.size) (fit_of_bulk hbk'))
      have HRT := Lib.hid (fun (w3 : World) (hb3 : Below wr.heap.size wr w3) => refRight_any t _ w3 0 (hin'.below hPw hb3) (fun b hb => Nat.lt_of_lt_of_le (hPw b hb) hb3.size) hbk' (by omega))
      have hka := HR.out.below (fun _ h => h) hB6
      obtain ⟨T, hTe⟩ : ∃ T, t.pl = T := ⟨_, rfl⟩
      rw [hTe] at HCP HCW HRT hbk'
      have HPI : Hid ((plL ts)[i]? = some T) := Lib.hid (by rw [plL_map, List.getElem?_map, ht, ← hTe]; rfl)
      have HTE := Lib.hid hTe
      have HIT0 := Lib.hid (HIN.out t htm)
      obtain ⟨k, n, v, A, ac, ps, K, kc, ks⟩ := t
      have HIT : Hid ((Tr.mk k n v A ac ps K kc ks).In (fun b => b < w.heap.size) w) := HIT0
      have HTP : Hid ((Tr.mk k n v A ac ps K kc ks).pl = T) := HTE
      clear HIT0
      obtain ⟨ad, rfl, hPad, d0, d1, d2, d3, d4⟩ := kid_at hka ht hlt
      have hb0 : (ad.add (i * 5)).block < wr.heap.size := by rw [block_of_add]; exact hPw _ hPad
      have hb00 : (ad.add (i * 5)).block < w.heap.size := by rw [block_of_add]; exact hPad
      have HF : Hid (∀ (w3 : World) (g cap : Nat), Below wr.heap.size wr w3 → g < w3.heap.size → w3.cell? ⟨g, 0, none⟩ = some (.int .i64 k) → w3.cell? ⟨g, 1, none⟩ = some (.string (ba' n)) → w3.cell? ⟨g, 2, none⟩ = some (.string (ba' v)) → w3.cell? ⟨g, 3, none⟩ = some (.slice A ps.length ac) → w3.cell? ⟨g, 4, none⟩ = some (.slice K ks.length kc) →
          Calls Tryd.prog 28 #[.int .i64 60, .slice (some ⟨g, 0, none⟩) 1 cap] w3 fun e w' => e = .returned (.bool (decide (T.size ≤ 60))) ∧ Below w3.heap.size w3 w') :=
        Lib.hid fun w3 g cap h1 hg h0 ha hb hc hd => by
          have := few_one k n v A ac ps K kc ks _ w3 60 g cap (hin'.below hPw h1) (fun b hb => Nat.lt_of_lt_of_le (hPw b hb) h1.size) (by rw [HTE.out]; exact (fit_of_bulk hbk').2) (by omega) hg h0 ha hb hc hd
          rw [HTE.out] at this
          exact this
      obtain ⟨fb, hfb⟩ : ∃ fb, decide (T.size ≤ 60) = fb := ⟨_, rfl⟩
      obtain ⟨rb, hrb⟩ : ∃ rb, T.right 0 = rb := ⟨_, rfl⟩
      rw [hfb] at HF
      rw [hrb] at HRT
      have HSZ : Hid (fb = true → T.size ≤ 60) := Lib.hid fun h => by rw [h] at hfb; exact of_decide_eq_true hfb
      have HFB := Lib.hid hfb
      have HRB := Lib.hid hrb; have HBT := Lib.hid hbk'
      obtain ⟨np, hnp⟩ : ∃ q, ps.length = q := ⟨_, rfl⟩
      obtain ⟨nk, hnk⟩ : ∃ q, ks.length = q := ⟨_, rfl⟩
      have HNPP := Lib.hid hnp; have HNKK := Lib.hid hnk
      simp only [Tr.v] at HCP HCW HRT
      rw [hnp, hnk] at HCP HCW HF HRT
      rw [hnp] at d3
      rw [hnk] at d4
      have HDW := Lib.hid hb00
      clear hka hil ht htm hin' hbk' hTe hfb hrb hnp hnk hPad hPw hb00 HTE
      have HB6 := Lib.hid hB6
      go_wp2_with fail
      refine (HF.out _ _ _ (by repeat (with_reducible (first | exact Below.refl _ _ | assumption | apply ba | apply bd | apply bdr | (refine bs ?_ (by first | assumption | (simp; done) | (simp; omega))) | (refine bt ?_ (by assumption))))) (by simp) (by first | (simp; done) | (simp [*]; done)) (by first | (simp; done) | (simp [*]; done)) (by first | (simp; done) | (simp [*]; done)) (by first | (simp; done) | (simp [*]; done)) (by first | (simp; done) | (simp [*]; done))).mono ?_
      rintro e w3 ⟨rfl, hb3⟩
      have B3 : Below wr.heap.size wr w3 := (by repeat (with_reducible (first | exact Below.refl _ _ | assumption | apply ba | apply bd | apply bdr | (refine bs ?_ (by first | assumption | (simp; done) | (simp; omega))) | (refine bt ?_ (by assumption)))))
      have d0_3 := (B3.cell hb0).trans d0
      have d1_3 := (B3.cell (show ({ block := (ad.add (i * 5)).block, off := (ad.add (i * 5)).off + 1 } : Addr).block < wr.heap.size from hb0)).trans d1
      have d2_3 := (B3.cell (show ({ block := (ad.add (i * 5)).block, off := (ad.add (i * 5)).off + 2 } : Addr).block < wr.heap.size from hb0)).trans d2
      have d3_3 := (B3.cell (show ({ block := (ad.add (i * 5)).block, off := (ad.add (i * 5)).off + 3 } : Addr).block < wr.heap.size from hb0)).trans d3
      have d4_3 := (B3.cell (show ({ block := (ad.add (i * 5)).block, off := (ad.add (i * 5)).off + 4 } : Addr).block < wr.heap.size from hb0)).trans d4
      clear hb3 HF
      cases fb with
      | false =>
        clear d0_3 d1_3 d2_3 d3_3 d4_3
        go_wp2
        go_roundw
        case rel => exact ⟨i + 1, ln, A6, c6, Al, cl, us, rfl, by go_num, by omega, by omega, Lib.hid (by have := hul.out; omega), hln, Lib.hid (hS6.out.later B3), bt HB6.out B3, Lib.hid (by rw [laidT_no HPI.out (by unfold goodT; rw [HFB.out]; rfl)]; exact hpl6.out)⟩
        case measure => simp [intOf]; omega
      | true =>
        go_wp2_with fail
        refine (HRT.out _ (by repeat (with_reducible (first | exact Below.refl _ _ | assumption | apply ba | apply bd | apply bdr | (refine bs ?_ (by first | assumption | (simp; done) | (simp; omega))) | (refine bt ?_ (by assumption)))))).mono ?_
        rintro e w4 ⟨rfl, hb4⟩
        have B4 : Below wr.heap.size wr w4 := bt B3 hb4
        clear d0_3 d1_3 d2_3 d3_3 d4_3
        have d0_4 := (B4.cell hb0).trans d0
        have d1_4 := (B4.cell (show ({ block := (ad.add (i * 5)).block, off := (ad.add (i * 5)).off + 1 } : Addr).block < wr.heap.size from hb0)).trans d1
        have d2_4 := (B4.cell (show ({ block := (ad.add (i * 5)).block, off := (ad.add (i * 5)).off + 2 } : Addr).block < wr.heap.size from hb0)).trans d2
        have d3_4 := (B4.cell (show ({ block := (ad.add (i * 5)).block, off := (ad.add (i * 5)).off + 3 } : Addr).block < wr.heap.size from hb0)).trans d3
        have d4_4 := (B4.cell (show ({ block := (ad.add (i * 5)).block, off := (ad.add (i * 5)).off + 4 } : Addr).block < wr.heap.size from hb0)).trans d4
        clear hb4 HRT
        cases rb with
        | false =>
          clear d0_4 d1_4 d2_4 d3_4 d4_4
          go_wp2
          go_roundw
          case rel => exact ⟨i + 1, ln, A6, c6, Al, cl, us, rfl, by go_num, by omega, by omega, Lib.hid (by have := hul.out; omega), hln, Lib.hid (hS6.out.later B4), bt HB6.out B4, Lib.hid (by rw [laidT_no HPI.out (by unfold goodT; rw [HRB.out, Bool.and_false])]; exact hpl6.out)⟩
          case measure => simp [intOf]; omega
        | true =>
          go_wp2_with fail
          refine (HCP.out _ (by repeat (with_reducible (first | exact Below.refl _ _ | assumption | apply ba | apply bd | apply bdr | (refine bs ?_ (by first | assumption | (simp; done) | (simp; omega))) | (refine bt ?_ (by assumption)))))).mono ?_
          rintro e w5 ⟨t1, rfl, hp1, hin1, hb5⟩
          have B5 : Below wr.heap.size wr w5 := bt B4 hb5
          have HST := Lib.hid (fun (wa : World) (ha : Below w5.heap.size w5 wa) => (⟨hS6.out.store.below (bt B5 ha), t1_below hin1 ha⟩ : StoreAt wa sb 1000 A6 c6 (layL (plL us) 0 0) ∧ t1.In (NewB w4 w5) wa))
          have hsz := HSZ.out (by first | trivial | rfl)
          have hln8 : sizeL (plL us) ≤ 360 := by have := hS6.out.size; have := hul.out; omega
          have HB1 : Hid (∀ wa : World, Below w5.heap.size w5 wa → Calls Tryd.prog 30 #[.pointer (some ⟨sb, 0, none⟩), t1.v] wa fun e w' => e = .returned (.tuple #[.int .i64 ((ln : Int) + 1), .int .i64 0]) ∧ ∃ A' c', StoreAt w' sb 1000 A' c' (layL (plL us) 0 0 ++ T.lay (sizeL (plL us)) 0) ∧ Beside sb A6 wa A' w') := Lib.hid fun wa ha => by
            have hA6 := fun (b : Nat) (h : blkOf A6 = some b) => (StoreAt.lt hS6.out.store h).2
            have hz4 := B4.size
            have hz5 := hb5.size
            have hza := ha.size
            have hsbl := hS6.out.store.1
            have := build_ok t1 (NewB w4 w5) wa sb 1000 A6 c6 _ (Utf8Tabs_below HT.out (bt HB6.out (bt B5 ha))) (HST.out wa ha).1 (HST.out wa ha).2 (fun b hb => ⟨by have := hb.2; omega, by have := hb.1; omega, fun e => by have := hA6 b e; have := hb.1; omega⟩) (by rw [hp1]; exact fit_of_bulk HBT.out) (by decide) (by rw [layL_len]; omega) (by rw [hp1]; exact HRB.out) (by rw [hp1, layL_len]; omega)
            rw [hp1, layL_len, hln.out, show ((ln + 1 : Nat) : Int) = (ln : Int) + 1 by omega] at this
            rw [hln.out]
            exact this
          obtain ⟨k3, n3, v3, A3, ac3, ps3, K3, kc3, ks3⟩ := t1
          simp only [Tr.v] at HB1 ⊢
          have hln9 : ln ≤ 360 := by rw [← hln.out]; exact hln8
          clear hp1 hin1 HCP hln8 hsz HST
          go_wp2_with fail
          refine (HB1.out _ (by repeat (with_reducible (first | exact Below.refl _ _ | assumption | apply ba | apply bd | apply bdr | (refine bs ?_ (by first | assumption | (simp; done) | (simp; omega))) | (refine bt ?_ (by assumption)))))).mono ?_
          rintro e w6 ⟨rfl, A7, c7, hS7, hB7⟩
          have b67 := Beside.below (B := w.heap.size) hB7 hS6.out.sbw (fun b h => by have := (StoreAt.lt hS6.out.store h).1; have := hS6.out.sbw; omega) (by have := B5.size; have := HB6.out.size; simp; omega)
          have b5a : Below wr.heap.size wr w5 := B5
          have Bw6 : Below w.heap.size w w6 := (bt HB6.out b5a).trans b67
          have HS7 := Lib.hid hS7; have HB7 := Lib.hid hB7; have HB5A := Lib.hid b5a
          have e0 := (b67.cell HDW.out).trans ((b5a.cell hb0).trans d0)
          have e1 := (b67.cell (show ({ block := (ad.add (i * 5)).block, off := (ad.add (i * 5)).off + 1 } : Addr).block < w.heap.size from HDW.out)).trans ((b5a.cell (show ({ block := (ad.add (i * 5)).block, off := (ad.add (i * 5)).off + 1 } : Addr).block < wr.heap.size from hb0)).trans d1)
          have e2 := (b67.cell (show ({ block := (ad.add (i * 5)).block, off := (ad.add (i * 5)).off + 2 } : Addr).block < w.heap.size from HDW.out)).trans ((b5a.cell (show ({ block := (ad.add (i * 5)).block, off := (ad.add (i * 5)).off + 2 } : Addr).block < wr.heap.size from hb0)).trans d2)
          have e3 := (b67.cell (show ({ block := (ad.add (i * 5)).block, off := (ad.add (i * 5)).off + 3 } : Addr).block < w.heap.size from HDW.out)).trans ((b5a.cell (show ({ block := (ad.add (i * 5)).block, off := (ad.add (i * 5)).off + 3 } : Addr).block < wr.heap.size from hb0)).trans d3)
          have e4 := (b67.cell (show ({ block := (ad.add (i * 5)).block, off := (ad.add (i * 5)).off + 4 } : Addr).block < w.heap.size from HDW.out)).trans ((b5a.cell (show ({ block := (ad.add (i * 5)).block, off := (ad.add (i * 5)).off + 4 } : Addr).block < wr.heap.size from hb0)).trans d4)
          have HAL : Hid (∀ b, blkOf Al = some b → w.heap.size ≤ b ∧ b < wr.heap.size) := Lib.hid fun b hb => own_lt hS6.out.own (by rw [own_blk]; exact hb)
          have HO6 : Hid (w6.ownsRow w.heap.size 106 6 (.slice Al (sizeL (plL us)) cl) (sizeL (plL us)) (rowN (nodesL us 0 0))) := Lib.hid (own_keep hS6.out.own fun b hb => by
            rw [own_blk] at hb
            have h1 := HAL.out b hb
            have h2 := b5a.size
            exact (hB7.2.2.2.2 b (by omega) (fun e => hS6.out.nsb (e ▸ hb)) (hS6.out.nA b hb)).1.trans (b5a.block b h1.2))
          have hz6 : wr.heap.size ≤ w6.heap.size := Nat.le_trans b5a.size hB7.2.2.2.1
          clear d0 d1 d2 d3 d4 d0_4 d1_4 d2_4 d3_4 d4_4 hS7 hB7 b67 HB1 b5a
          have HL := layRef_any (.mk k n v A ac ps K kc ks) (fun b => b < w.heap.size) w6 w.heap.size Al cl (nodesL us 0 0) 0
          rw [nodesL_len, HTP.out] at HL
          have HLC := Lib.hid (HL HO6.out (HIT.out.below (fun _ h => h) Bw6) (fun b hb => ⟨by have := Bw6.size; omega, fun e => by have := (HAL.out b e).1; omega⟩) (fit_of_bulk HBT.out) (by have := hS6.out.size; have := hul.out; have := HSZ.out (by first | trivial | rfl); omega) (by have := Bw6.size; omega))
          rw [hln.out] at HLC
          simp only [Tr.v] at HLC
          rw [HNPP.out, HNKK.out] at HLC
          obtain ⟨l9, hl9⟩ : ∃ l9, ln + T.size = l9 := ⟨_, rfl⟩
          have HL9 := Lib.hid hl9
          simp only [hl9] at HLC
          clear HL hl9
          go_wp2_with fail
          refine HLC.out.mono ?_
          rintro e w8 ⟨A8, c8, rfl, hO8, hL8⟩
          have hnx : LaidS w w8 sb A7 c7 A8 c8 (us ++ [.mk k n v A ac ps K kc ks]) := hS6.out.nextO HB5A.out HB7.out HS7.out HIT.out HTP.out hL8 (by rw [hln.out, HL9.out]; exact hO8) ⟨HRB.out, HSZ.out (by first | trivial | rfl), HBT.out⟩
          have HNX := Lib.hid hnx
          have Bw8 := hnx.below
          clear hO8 hL8 hnx
          go_wp2
          go_roundw
          case rel => exact ⟨i + 1, l9, A7, c7, A8, c8, _, rfl, by go_num, by omega, by omega, Lib.hid (by rw [List.length_append]; have := hul.out; simp; omega), Lib.hid (by rw [plL_app, plL_one, sizeL_app, sizeL, sizeL, Nat.add_zero, HTP.out, hln.out, HL9.out]), HNX, Bw8, Lib.hid (by rw [laidT_yes HPI.out (by unfold goodT; rw [HFB.out, HRB.out]; rfl), plL_app, plL_one, HTP.out, hpl6.out])⟩
          case measure => simp [intOf]; omega
    · have hend : Hid (plL us = laidT (plL ts) 6) := Lib.hid (by
        by_cases hln' : i < nt
        · rw [hpl6.out, show i = 6 by omega]
        · have hl : (plL ts).length = nt := by rw [plL_map, List.length_map]; exact HLEN.out
          rw [hpl6.out]; unfold laidT; rw [List.take_of_length_le (by omega), List.take_of_length_le (by omega)])
      have HBW := Lib.hid hB6
      by_cases hln' : i < nt
      · have g8 : decide ((i : Int) < 6) = false := by simp; omega
        have gi : decide ((i : Int) < (nt : Int)) = true := by first | (simp; done) | (simp; omega)
        have gi' : decide (i < nt) = true := by simpa using hln'
        clear hlt hB6 hpl6 hul
        go_wp2
        go_loopw [11] (fun s11 wx => ∃ j : Nat, s11 = .int .i64 (j : Nat) ∧ j ≤ ni ∧ Hid ((xs.take j).all (fun x => decide (0 ≤ x.m) && (decide (x.m ≠ 0) || okA x)) = true) ∧ Below wr.heap.size wr wx) (fun s11 _ => ni - (intOf s11).toNat)
        case atStart => exact ⟨0, rfl, Nat.zero_le _, Lib.hid (by simp), Below.refl _ _⟩
        case round =>
          obtain ⟨j, rfl, hj, HAL, hB⟩ := hrel
          have HB := Lib.hid hB
          have HBJ := Lib.hid (bt HBW.out hB)
          by_cases hlt : j < ni
          · have q1 : decide ((j : Int) < (ni : Int)) = true := by simp; omega
            have q1' : decide (j < ni) = true := by simpa using hlt
            obtain ⟨x, hx⟩ : ∃ x, xs[j]? = some x := ⟨_, List.getElem?_eq_getElem (by rw [HXS.out]; exact hlt)⟩
            obtain ⟨ad, rfl, hb0, d0, d1, d2, d3, d4, d5⟩ := HII.out j x hx
            have d0 := (HBJ.out.cell hb0).trans d0
            have d1 := (HBJ.out.cell (show ({ block := (ad.add (j * 6)).block, off := (ad.add (j * 6)).off + 1 } : Addr).block < w.heap.size from hb0)).trans d1
            have d2 := (HBJ.out.cell (show ({ block := (ad.add (j * 6)).block, off := (ad.add (j * 6)).off + 2 } : Addr).block < w.heap.size from hb0)).trans d2
            have d3 := (HBJ.out.cell (show ({ block := (ad.add (j * 6)).block, off := (ad.add (j * 6)).off + 3 } : Addr).block < w.heap.size from hb0)).trans d3
            have d4 := (HBJ.out.cell (show ({ block := (ad.add (j * 6)).block, off := (ad.add (j * 6)).off + 4 } : Addr).block < w.heap.size from hb0)).trans d4
            have d5 := (HBJ.out.cell (show ({ block := (ad.add (j * 6)).block, off := (ad.add (j * 6)).off + 5 } : Addr).block < w.heap.size from hb0)).trans d5
            have hxm := List.mem_of_getElem? hx
            have hno : (decide (0 ≤ x.m) && (decide (x.m ≠ 0) || okA x)) = false → ok = false := fun h => by
              rw [← HOK.out]
              cases hh : xs.all (fun x => decide (0 ≤ x.m) && (decide (x.m ≠ 0) || okA x)) with
              | false => rfl
              | true => have := List.all_eq_true.1 hh x hxm; rw [h] at this; cases this
            have hyes : (decide (0 ≤ x.m) && (decide (x.m ≠ 0) || okA x)) = true → (xs.take (j + 1)).all (fun x => decide (0 ≤ x.m) && (decide (x.m ≠ 0) || okA x)) = true := fun h => by
              rw [List.take_add_one, hx, List.all_append, HAL.out]; simpa using h
            have HNO := Lib.hid hno
            have HYES := Lib.hid hyes
            have HX := Lib.hid (HAT.out x hxm)
            have hw : wrap64 ((j : Int) + 1) = (j : Int) + 1 := by unfold wrap64; omega
            obtain ⟨xm, xk, xn, xc, xs', xb⟩ := x
            simp only at d0 d1 d2 d3 d4 d5
            clear hno hyes hx hxm
            by_cases hneg : xm < 0
            · have g1 : decide (xm < 0) = true := by simpa using hneg
              have hof : ok = false := HNO.out (by simp; intro h; omega)
              subst hof
              go_wp2
              go_ret3
              exact ⟨rfl, bt HBW.out HB.out⟩
            · have g1 : decide (xm < 0) = false := by simpa using hneg
              by_cases h0 : xm = 0
              · subst h0
                obtain ⟨oa, hoa⟩ : ∃ oa, okA ⟨0, xk, xn, xc, xs', xb⟩ = oa := ⟨_, rfl⟩
                have HA := Lib.hid (HX.out rfl wr HBJ.out)
                rw [hoa] at HA
                go_wp2_with fail
                refine HA.out.mono ?_
                rintro e w9 ⟨rfl, hb9⟩
                cases oa with
                | true =>
                  go_wp2
                  go_roundw
                  case measure => simp [intOf]; omega
                  case rel => exact ⟨j + 1, by simp, by omega, Lib.hid (HYES.out (by rw [hoa]; simp)), bt HB.out hb9⟩
                | false =>
                  have hof : ok = false := HNO.out (by rw [hoa]; simp)
                  subst hof
                  go_wp2
                  go_ret3
                  exact ⟨rfl, bt (bt HBW.out HB.out) hb9⟩
              · have g2 : (xm == 0) = false := by simpa using h0
                have g2' : (xm = 0) = False := by simpa using h0
                go_wp2
                go_roundw
                case measure => simp [intOf]; omega
                case rel => exact ⟨j + 1, by simp, by omega, Lib.hid (HYES.out (by simp [h0]; omega)), HB.out⟩
          · have q1 : decide ((j : Int) < (ni : Int)) = false := by simp; omega
            have q1' : decide (j < ni) = false := by simpa using hlt
            have hot : ok = true := by
              rw [← HOK.out]
              have h := HAL.out
              rwa [List.take_of_length_le (by rw [HXS.out]; omega)] at h
            subst hot
            go_wp2
            go_ret3
            have h := hln.out
            subst h
            exact ⟨⟨sb, A6, c6, Al, cl, us, rfl, hS6.out.later HB.out, hend.out⟩, bt HBW.out HB.out⟩
      · have gi : decide ((i : Int) < (nt : Int)) = false := by simp; omega
        have gi' : decide (i < nt) = false := by simpa using hln'
        clear hlt hB6 hpl6 hul
        go_wp2
        go_loopw [11] (fun s11 wx => ∃ j : Nat, s11 = .int .i64 (j : Nat) ∧ j ≤ ni ∧ Hid ((xs.take j).all (fun x => decide (0 ≤ x.m) && (decide (x.m ≠ 0) || okA x)) = true) ∧ Below wr.heap.size wr wx) (fun s11 _ => ni - (intOf s11).toNat)
        case atStart => exact ⟨0, rfl, Nat.zero_le _, Lib.hid (by simp), Below.refl _ _⟩
        case round =>
          obtain ⟨j, rfl, hj, HAL, hB⟩ := hrel
          have HB := Lib.hid hB
          have HBJ := Lib.hid (bt HBW.out hB)
          by_cases hlt : j < ni
          · have q1 : decide ((j : Int) < (ni : Int)) = true := by simp; omega
            have q1' : decide (j < ni) = true := by simpa using hlt
            obtain ⟨x, hx⟩ : ∃ x, xs[j]? = some x := ⟨_, List.getElem?_eq_getElem (by rw [HXS.out]; exact hlt)⟩
            obtain ⟨ad, rfl, hb0, d0, d1, d2, d3, d4, d5⟩ := HII.out j x hx
            have d0 := (HBJ.out.cell hb0).trans d0
            have d1 := (HBJ.out.cell (show ({ block := (ad.add (j * 6)).block, off := (ad.add (j * 6)).off + 1 } : Addr).block < w.heap.size from hb0)).trans d1
            have d2 := (HBJ.out.cell (show ({ block := (ad.add (j * 6)).block, off := (ad.add (j * 6)).off + 2 } : Addr).block < w.heap.size from hb0)).trans d2
            have d3 := (HBJ.out.cell (show ({ block := (ad.add (j * 6)).block, off := (ad.add (j * 6)).off + 3 } : Addr).block < w.heap.size from hb0)).trans d3
            have d4 := (HBJ.out.cell (show ({ block := (ad.add (j * 6)).block, off := (ad.add (j * 6)).off + 4 } : Addr).block < w.heap.size from hb0)).trans d4
            have d5 := (HBJ.out.cell (show ({ block := (ad.add (j * 6)).block, off := (ad.add (j * 6)).off + 5 } : Addr).block < w.heap.size from hb0)).trans d5
            have hxm := List.mem_of_getElem? hx
            have hno : (decide (0 ≤ x.m) && (decide (x.m ≠ 0) || okA x)) = false → ok = false := fun h => by
              rw [← HOK.out]
              cases hh : xs.all (fun x => decide (0 ≤ x.m) && (decide (x.m ≠ 0) || okA x)) with
              | false => rfl
              | true => have := List.all_eq_true.1 hh x hxm; rw [h] at this; cases this
            have hyes : (decide (0 ≤ x.m) && (decide (x.m ≠ 0) || okA x)) = true → (xs.take (j + 1)).all (fun x => decide (0 ≤ x.m) && (decide (x.m ≠ 0) || okA x)) = true := fun h => by
              rw [List.take_add_one, hx, List.all_append, HAL.out]; simpa using h
            have HNO := Lib.hid hno
            have HYES := Lib.hid hyes
            have HX := Lib.hid (HAT.out x hxm)
            have hw : wrap64 ((j : Int) + 1) = (j : Int) + 1 := by unfold wrap64; omega
            obtain ⟨xm, xk, xn, xc, xs', xb⟩ := x
            simp only at d0 d1 d2 d3 d4 d5
            clear hno hyes hx hxm
            by_cases hneg : xm < 0
            · have g1 : decide (xm < 0) = true := by simpa using hneg
              have hof : ok = false := HNO.out (by simp; intro h; omega)
              subst hof
              go_wp2
              go_ret3
              exact ⟨rfl, bt HBW.out HB.out⟩
            · have g1 : decide (xm < 0) = false := by simpa using hneg
              by_cases h0 : xm = 0
              · subst h0
                obtain ⟨oa, hoa⟩ : ∃ oa, okA ⟨0, xk, xn, xc, xs', xb⟩ = oa := ⟨_, rfl⟩
                have HA := Lib.hid (HX.out rfl wr HBJ.out)
                rw [hoa] at HA
                go_wp2_with fail
                refine HA.out.mono ?_
                rintro e w9 ⟨rfl, hb9⟩
                cases oa with
                | true =>
                  go_wp2
                  go_roundw
                  case measure => simp [intOf]; omega
                  case rel => exact ⟨j + 1, by simp, by omega, Lib.hid (HYES.out (by rw [hoa]; simp)), bt HB.out hb9⟩
                | false =>
                  have hof : ok = false := HNO.out (by rw [hoa]; simp)
                  subst hof
                  go_wp2
                  go_ret3
                  exact ⟨rfl, bt (bt HBW.out HB.out) hb9⟩
              · have g2 : (xm == 0) = false := by simpa using h0
                have g2' : (xm = 0) = False := by simpa using h0
                go_wp2
                go_roundw
                case measure => simp [intOf]; omega
                case rel => exact ⟨j + 1, by simp, by omega, Lib.hid (HYES.out (by simp [h0]; omega)), HB.out⟩
          · have q1 : decide ((j : Int) < (ni : Int)) = false := by simp; omega
            have q1' : decide (j < ni) = false := by simpa using hlt
            have hot : ok = true := by
              rw [← HOK.out]
              have h := HAL.out
              rwa [List.take_of_length_le (by rw [HXS.out]; omega)] at h
            subst hot
            go_wp2
            go_ret3
            have h := hln.out
            subst h
            exact ⟨⟨sb, A6, c6, Al, cl, us, rfl, hS6.out.later HB.out, hend.out⟩, bt HBW.out HB.out⟩
end Go.Proofs.YtjpopmgnhgancaaDoor
namespace Go.Proofs.YtjpopmgnhgancaaDoor
open Go.RowKit Go.Lib
/-- An entry of a right tree: a kind, and a name of an Elem or an Attr alone. -/
def EnOk (x : En) : Prop := 1 ≤ x.k ∧ x.k ≤ 5 ∧ (x.n ≠ [] → x.k = 2 ∨ x.k = 3)
theorem layP_ok : ∀ (ps : List (List UInt8 × List UInt8)) (b own : Nat), ∀ x ∈ layP ps b own, EnOk x
  | [], _, _, x, h => by rw [layP] at h; cases h
  | p :: ps, b, own, x, h => by
    rw [layP] at h
    rcases List.mem_cons.1 h with rfl | h
    · exact ⟨by simp, by simp, fun _ => .inr rfl⟩
    · exact layP_ok ps _ _ x h
theorem head_ok {k : Int} {n v : List UInt8} {ps : List (List UInt8 × List UInt8)} {z : Bool} (h : headR k n v ps z = true) : 1 ≤ k ∧ k ≤ 5 ∧ (n ≠ [] → k = 2 ∨ k = 3) := by
  unfold headR at h
  split at h
  · simp only [Bool.and_eq_true, List.isEmpty_iff] at h
    exact ⟨by omega, by omega, fun e => absurd h.1.1 e⟩
  split at h
  · exact ⟨by omega, by omega, fun _ => .inl (by omega)⟩
  split at h
  · exact ⟨by omega, by omega, fun _ => .inr (by omega)⟩
  split at h
  · simp only [Bool.and_eq_true, List.isEmpty_iff] at h
    exact ⟨by omega, by omega, fun e => absurd h.1.1.1.1 e⟩
  split at h
  · simp only [Bool.and_eq_true, List.isEmpty_iff] at h
    exact ⟨by omega, by omega, fun e => absurd h.1.1.1 e⟩
  · cases h
theorem lay_ok : ∀ (t : PT) (d : Nat), t.right d = true → ∀ (b p : Nat), ∀ x ∈ t.lay b p, EnOk x := by
  intro t
  induction t using PT.ind with
  | h k n v ps ks ih =>
    intro d hr b p x hx
    rw [PT.right] at hr
    simp only [Bool.and_eq_true] at hr
    rw [PT.lay] at hx
    rcases List.mem_cons.1 hx with rfl | hx
    · exact head_ok hr.1.2
    · rcases List.mem_append.1 hx with hx | hx
      · exact layP_ok _ _ _ x hx
      · have aux : ∀ (L : List PT), (∀ t ∈ L, t.right (d + 1) = true ∧ ∀ (d : Nat), t.right d = true → ∀ (b p : Nat), ∀ x ∈ t.lay b p, EnOk x) → ∀ (b p : Nat), ∀ x ∈ layL L b p, EnOk x := by
          intro L
          induction L with
          | nil => intro _ b p x h; rw [layL] at h; cases h
          | cons t L ih2 =>
            intro hL b p x h
            rw [layL] at h
            rcases List.mem_append.1 h with h | h
            · exact (hL t (.head _)).2 (d + 1) (hL t (.head _)).1 b p x h
            · exact ih2 (fun t ht => hL t (.tail _ ht)) _ _ x h
        exact aux ks (fun t ht => ⟨(rightL_mem hr.2 t ht).1, ih t ht⟩) _ _ x hx
theorem layL_ok : ∀ (L : List PT), (∀ t ∈ L, t.right 0 = true) → ∀ (b p : Nat), ∀ x ∈ layL L b p, EnOk x
  | [], _, b, p, x, h => by rw [layL] at h; cases h
  | t :: L, hL, b, p, x, h => by
    rw [layL] at h
    rcases List.mem_append.1 h with h | h
    · exact lay_ok t 0 (hL t (.head _)) b p x h
    · exact layL_ok L (fun t ht => hL t (.tail _ ht)) _ _ x h
end Go.Proofs.YtjpopmgnhgancaaDoor
namespace Go.Proofs.YtjpopmgnhgancaaDoor
open Go.RowKit Go.Lib
set_option maxRecDepth 100000
set_option maxHeartbeats 8000000
theorem at_out (sb lim : Nat) (A : Option Addr) (c : Nat) (L : List En) (m : Int) (w : World) (hS : StoreAt w sb lim A c L) (_hL : L.length ≤ 1048576) (hm : m < 1 ∨ (L.length : Int) < m) :
    Calls Tryd.prog 60 #[.pointer (some ⟨sb, 0, none⟩), .int .i64 m] w fun e' w' => e' = .returned (.agg #[.int .i64 0, .string ⟨#[]⟩, .string ⟨#[]⟩, .int .i64 0, .int .i64 0]) ∧ Below w.heap.size w w' := by
  have HE := Lib.hid (fun (w1 : World) (hb1 : Below w.heap.size w w1) => len_same sb lim A c L w1 (hS.below hb1))
  obtain ⟨h0, h1, h2, h3, h4⟩ := hS
  obtain ⟨ln, hn⟩ : ∃ n, L.length = n := ⟨_, rfl⟩
  rw [hn] at h2 HE hm
  clear hn h4
  by_cases g : m < 1
  · have g1 : decide (m < 1) = true := by simpa using g
    go_enter Tryd.func60, Tryd.ntmps60
    go_wp2
    exact bodyPost_ret (v := .agg #[.int .i64 0, .string ⟨#[]⟩, .string ⟨#[]⟩, .int .i64 0, .int .i64 0]) (by simp [results, Tryd.results60, go_sem, *]) rfl ⟨rfl, (by repeat (with_reducible (first | exact Below.refl _ _ | assumption | apply ba | apply bd | apply bdr | (refine bs ?_ (by first | assumption | (simp; done) | (simp; omega))) | (refine bt ?_ (by assumption)))))⟩
  · have g1 : decide (m < 1) = false := by simpa using g
    have g2 : decide (m > (ln : Int)) = true := by simp; omega
    have g3 : decide ((ln : Int) < m) = true := by simp; omega
    clear hm
    go_enter Tryd.func60, Tryd.ntmps60
    go_wp2_with (go_at_call 71; go_must (refine (HE.out _ (by repeat (with_reducible (first | exact Below.refl _ _ | assumption | apply ba | apply bd | apply bdr | (refine bs ?_ (by first | assumption | (simp; done) | (simp; omega))) | (refine bt ?_ (by assumption)))))).mono ?_); rintro e w9 ⟨rfl, rfl⟩)
    exact bodyPost_ret (v := .agg #[.int .i64 0, .string ⟨#[]⟩, .string ⟨#[]⟩, .int .i64 0, .int .i64 0]) (by simp [results, Tryd.results60, go_sem, *]) rfl ⟨rfl, (by repeat (with_reducible (first | exact Below.refl _ _ | assumption | apply ba | apply bd | apply bdr | (refine bs ?_ (by first | assumption | (simp; done) | (simp; omega))) | (refine bt ?_ (by assumption)))))⟩
theorem kind_out (sb : Nat) (m : Int) (w : World) (HA : Hid (∀ w1 : World, Below w.heap.size w w1 → Calls Tryd.prog 60 #[.pointer (some ⟨sb, 0, none⟩), .int .i64 m] w1 fun e' w' => e' = .returned (.agg #[.int .i64 0, .string ⟨#[]⟩, .string ⟨#[]⟩, .int .i64 0, .int .i64 0]) ∧ Below w1.heap.size w1 w')) :
    Calls Tryd.prog 39 #[.pointer (some ⟨sb, 0, none⟩), .int .i64 m] w fun e' w' => e' = .returned (.int .i64 0) ∧ Below w.heap.size w w' := by
  have hfld := fun (x0 x1 x2 x3 x4 : Value) (w : World) => (by kernel_rfl : (Instr.field 109 (.agg #[x0, x1, x2, x3, x4]) 0).run Tryd.prog w = .ok (x0) w)
  go_enter Tryd.func39, Tryd.ntmps39
  go_wp2_with (go_at_call 60; go_must (refine (HA.out _ (by repeat (with_reducible (first | exact Below.refl _ _ | assumption | apply ba | apply bd | apply bdr | (refine bs ?_ (by first | assumption | (simp; done) | (simp; omega))) | (refine bt ?_ (by assumption)))))).mono ?_); rintro e w1 ⟨rfl, hb1⟩)
  go_ret
  exact ⟨rfl, (by repeat (with_reducible (first | exact Below.refl _ _ | assumption | apply ba | apply bd | apply bdr | (refine bs ?_ (by first | assumption | (simp; done) | (simp; omega))) | (refine bt ?_ (by assumption)))))⟩
theorem name_out (sb : Nat) (m : Int) (w : World) (HA : Hid (∀ w1 : World, Below w.heap.size w w1 → Calls Tryd.prog 60 #[.pointer (some ⟨sb, 0, none⟩), .int .i64 m] w1 fun e' w' => e' = .returned (.agg #[.int .i64 0, .string ⟨#[]⟩, .string ⟨#[]⟩, .int .i64 0, .int .i64 0]) ∧ Below w1.heap.size w1 w')) :
    Calls Tryd.prog 40 #[.pointer (some ⟨sb, 0, none⟩), .int .i64 m] w fun e' w' => e' = .returned (.string ⟨#[]⟩) ∧ Below w.heap.size w w' := by
  have hfld := fun (x0 x1 x2 x3 x4 : Value) (w : World) => (by kernel_rfl : (Instr.field 109 (.agg #[x0, x1, x2, x3, x4]) 1).run Tryd.prog w = .ok (x1) w)
  go_enter Tryd.func40, Tryd.ntmps40
  go_wp2_with (go_at_call 60; go_must (refine (HA.out _ (by repeat (with_reducible (first | exact Below.refl _ _ | assumption | apply ba | apply bd | apply bdr | (refine bs ?_ (by first | assumption | (simp; done) | (simp; omega))) | (refine bt ?_ (by assumption)))))).mono ?_); rintro e w1 ⟨rfl, hb1⟩)
  go_ret
  exact ⟨rfl, (by repeat (with_reducible (first | exact Below.refl _ _ | assumption | apply ba | apply bd | apply bdr | (refine bs ?_ (by first | assumption | (simp; done) | (simp; omega))) | (refine bt ?_ (by assumption)))))⟩
end Go.Proofs.YtjpopmgnhgancaaDoor
namespace Go.Proofs.YtjpopmgnhgancaaDoor
open Go.RowKit Go.Lib
set_option maxRecDepth 100000
set_option maxHeartbeats 8000000
theorem name_in (sb lim : Nat) (A : Option Addr) (c : Nat) (L : List En) (i : Nat) (k : Int) (n v : List UInt8) (p e : Nat) (w : World) (hS : StoreAt w sb lim A c L) (hi : L[i]? = some ⟨k, n, v, p, e⟩) (hL : L.length ≤ 1048576) :
    Calls Tryd.prog 40 #[.pointer (some ⟨sb, 0, none⟩), .int .i64 ((i : Int) + 1)] w fun e' w' => e' = .returned (.string (ba' n)) ∧ Below w.heap.size w w' := by
  have HA := Lib.hid (fun (w1 : World) (hb1 : Below w.heap.size w w1) => at_in sb lim A c L i k n v p e w1 (hS.below hb1) hi hL)
  have hfld := fun (x0 x1 x2 x3 x4 : Value) (w : World) => (by kernel_rfl : (Instr.field 109 (.agg #[x0, x1, x2, x3, x4]) 1).run Tryd.prog w = .ok (x1) w)
  clear hS hi hL
  go_enter Tryd.func40, Tryd.ntmps40
  go_wp2_with (go_at_call 60; go_must (refine (HA.out _ (by repeat (with_reducible (first | exact Below.refl _ _ | assumption | apply ba | apply bd | apply bdr | (refine bs ?_ (by first | assumption | (simp; done) | (simp; omega))) | (refine bt ?_ (by assumption)))))).mono ?_); rintro e w1 ⟨rfl, hb1⟩)
  go_ret
  exact ⟨rfl, by repeat (with_reducible (first | exact Below.refl _ _ | assumption | apply ba | apply bd | apply bdr | (refine bs ?_ (by first | assumption | (simp; done) | (simp; omega))) | (refine bt ?_ (by assumption))))⟩
/-- The kind of an item, of the entries of a store. -/
def kindI (L : List En) (x : It) : TT :=
  if x.m = 0 then ⟨⟨x.k.toNat, []⟩, 0⟩ else
    match L[(x.m - 1).toNat]? with
    | some e => ⟨⟨ofNode e.k.toNat, e.n⟩, 0⟩
    | none => ⟨⟨13, []⟩, 0⟩
def ItOk (x : It) : Prop := 0 ≤ x.m ∧ (x.m ≠ 0 ∨ (1 ≤ x.k ∧ x.k ≤ 5))
theorem gt_kindI {L : List En} {x : It} (hL : ∀ e ∈ L, EnOk e) (hx : ItOk x) : GT (kindI L x) := by
  unfold kindI
  split
  · rename_i h0
    obtain ⟨_, h⟩ := hx
    have h := h.resolve_left (fun e => e h0)
    exact gt_lit _ _ (by omega) (by decide)
  · cases he : L[(x.m - 1).toNat]? with
    | none => exact gt_lit _ _ (by decide) (by decide)
    | some e =>
      obtain ⟨h1, h2, h3⟩ := hL e (List.mem_of_getElem? he)
      have hq : ofNode e.k.toNat ≤ 13 := by unfold ofNode; split <;> omega
      refine ⟨⟨hq, fun hn => ?_⟩, Nat.zero_le _⟩
      rcases h3 hn with h | h
      · left; show ofNode e.k.toNat = 8; rw [h]; rfl
      · right; show ofNode e.k.toNat = 9; rw [h]; rfl
theorem kindI_any (sb : Nat) (A : Option Addr) (c : Nat) (L : List En) (x : It) (hx : ItOk x) (hE : ∀ e ∈ L, EnOk e) (hL : L.length ≤ 1048576) (w : World) (hS : StoreAt w sb 1000 A c L) (hT : TK2 w) :
    Calls Tryd.prog 16 #[.pointer (some ⟨sb, 0, none⟩), .agg #[.int .i64 x.m, .int .i64 x.k, .int .i64 x.n, .int .i64 x.c, .string x.s, .bool x.b]] w fun e w' => e = .returned (.agg #[.int .i64 ((kindI L x).k.i : Nat), .string (ba' (kindI L x).k.n), .int .i64 ((kindI L x).o : Nat)]) ∧ Below w.heap.size w w' := by
  obtain ⟨m, k, n, cc, s, b⟩ := x
  obtain ⟨hm, hk⟩ := hx
  simp only at hm hk
  unfold kindI
  by_cases h0 : m = 0
  · subst h0
    obtain ⟨h1, h2⟩ := hk.resolve_left (fun e => e rfl)
    obtain ⟨q, rfl⟩ : ∃ q : Nat, k = (q : Int) := ⟨k.toNat, by omega⟩
    have h := kind_atom (some ⟨sb, 0, none⟩) q n cc s b (by omega) (by omega) w hT
    simpa using h
  · have hS' := hS
    simp only [h0, if_false]
    cases he : L[(m - 1).toNat]? with
    | none =>
      have hlen : L.length ≤ (m - 1).toNat := by simpa using he
      have HA : Hid (∀ w1 : World, Below w.heap.size w w1 → Calls Tryd.prog 60 #[.pointer (some ⟨sb, 0, none⟩), .int .i64 m] w1 fun e' w' => e' = .returned (.agg #[.int .i64 0, .string ⟨#[]⟩, .string ⟨#[]⟩, .int .i64 0, .int .i64 0]) ∧ Below w1.heap.size w1 w') := Lib.hid fun w1 h1 => at_out sb 1000 A c L m w1 (hS.below h1) hL (.inr (by omega))
      exact kind_node sb 0 13 m k n cc s ⟨#[]⟩ b h0 (by decide) rfl w hT (Lib.hid fun w1 h1 => kind_out sb m w1 (Lib.hid fun w2 h2 => HA.out w2 (bt h1 h2))) (Lib.hid fun w1 h1 => name_out sb m w1 (Lib.hid fun w2 h2 => HA.out w2 (bt h1 h2)))
    | some e =>
      obtain ⟨h1, h2, _⟩ := hE e (List.mem_of_getElem? he)
      obtain ⟨ek, en, ev, ep, ee⟩ := e
      simp only at h1 h2
      obtain ⟨q, rfl⟩ : ∃ q : Nat, ek = (q : Int) := ⟨ek.toNat, by omega⟩
      have hmi : (((m - 1).toNat : Nat) : Int) + 1 = m := by omega
      have hk' := fun (w1 : World) (h1 : Below w.heap.size w w1) => kind_in sb 1000 A c L (m - 1).toNat q en ev ep ee w1 (hS.below h1) he hL
      have hn' := fun (w1 : World) (h1 : Below w.heap.size w w1) => name_in sb 1000 A c L (m - 1).toNat q en ev ep ee w1 (hS.below h1) he hL
      rw [hmi] at hk' hn'
      exact kind_node sb q (ofNode q) m k n cc s (ba' en) b h0 (by omega) rfl w hT (Lib.hid hk') (Lib.hid hn')
end Go.Proofs.YtjpopmgnhgancaaDoor
namespace Go.Proofs.YtjpopmgnhgancaaDoor
def okI (x : It) : Bool := decide (0 ≤ x.m) && (decide (x.m ≠ 0) || atomR x.k x.n x.c x.s.data.toList x.b)
theorem okI_ok {x : It} (h : okI x = true) : ItOk x := by
  unfold okI at h
  rw [Bool.and_eq_true, Bool.or_eq_true, decide_eq_true_eq, decide_eq_true_eq] at h
  exact ⟨h.1, h.2.imp id atom_kinds⟩
end Go.Proofs.YtjpopmgnhgancaaDoor
