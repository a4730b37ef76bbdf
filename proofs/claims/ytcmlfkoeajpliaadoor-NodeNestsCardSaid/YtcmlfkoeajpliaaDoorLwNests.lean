/- The statement NodeNests. No condition beyond what the theorems state. -/
import Derived.Test.YtcmlfkoeajpliaaDoorLwWake
import Derived.Test.YtcmlfkoeajpliaaDoorRefFew
import Derived.Test.YtcmlfkoeajpliaaDoorRefCopy
import Derived.Test.YtcmlfkoeajpliaaDoorNesting
namespace Go.Proofs.YtcmlfkoeajpliaaDoor
open Go.RowKit Go.Lib
set_option maxRecDepth 100000
set_option maxHeartbeats 8000000
theorem build_nest (t : Tr) (P : Nat → Prop) (w : World) (sb lim : Nat) (A : Option Addr) (c : Nat) (L : List En) (hT : tabs w) (hS : StoreAt w sb lim A c L) (hin : t.In P w) (hP : Apart P sb A w) (hb : t.pl.fit) (hl : lim ≤ 1048576) (hL : L.length ≤ lim) (hN : Nest 0 0 L) :
    Calls Tryd.prog 18 #[.pointer (some ⟨sb, 0, none⟩), t.v] w fun e w' => (∃ n z : Int, e = .returned (.tuple #[.int .i64 n, .int .i64 z])) ∧ ∃ A' c' L', StoreAt w' sb lim A' c' L' ∧ Beside sb A w A' w' ∧ Nest 0 0 L' ∧ L'.length ≤ lim := by
  cases hr : t.pl.right 0 with
  | false =>
    refine (build_wrong t P w sb lim A c L hT hS hin hP hb hl hL hr).mono ?_
    rintro e w' ⟨rfl, h⟩
    exact ⟨⟨_, _, rfl⟩, A, c, L, hS.below h, Beside.of_below h, hN, hL⟩
  | true =>
    by_cases hf : lim < L.length + t.pl.size
    · refine (build_nodes t P w sb lim A c L hT hS hin hP hb hl hL hr hf).mono ?_
      rintro e w' ⟨rfl, h⟩
      exact ⟨⟨_, _, rfl⟩, A, c, L, hS.below h, Beside.of_below h, hN, hL⟩
    · refine (build_ok t P w sb lim A c L hT hS hin hP hb hl hL hr (by omega)).mono ?_
      rintro e w' ⟨rfl, A', c', h, k⟩
      exact ⟨⟨_, _, rfl⟩, A', c', _, h, k, nest_more hN hr, by rw [List.length_append, lay_len]; omega⟩
/-- What a store tells of its numbers, in every world behind. -/
structure TellsOf (wB : World) (sb : Nat) (L : List En) : Prop where
  len : ∀ w1 : World, Below wB.heap.size wB w1 → Calls Tryd.prog 22 #[.pointer (some ⟨sb, 0, none⟩)] w1 fun e w' => e = .returned (.int .i64 (L.length : Int)) ∧ Below w1.heap.size w1 w'
  par : ∀ (n : Nat), 1 ≤ n → n ≤ L.length → ∀ w1 : World, Below wB.heap.size wB w1 → Calls Tryd.prog 31 #[.pointer (some ⟨sb, 0, none⟩), .int .i64 (n : Int)] w1 fun e w' => e = .returned (.int .i64 (par L n : Int)) ∧ Below w1.heap.size w1 w'
  fin : ∀ (n : Nat), 1 ≤ n → n ≤ L.length → ∀ w1 : World, Below wB.heap.size wB w1 → Calls Tryd.prog 30 #[.pointer (some ⟨sb, 0, none⟩), .int .i64 (n : Int)] w1 fun e w' => e = .returned (.int .i64 (fin L n : Int)) ∧ Below w1.heap.size w1 w'
  root : ∀ (n : Nat), 1 ≤ n → n ≤ L.length → ∀ w1 : World, Below wB.heap.size wB w1 → Calls Tryd.prog 29 #[.pointer (some ⟨sb, 0, none⟩), .int .i64 (n : Int)] w1 fun e w' => e = .returned (.int .i64 (rootOf L n : Int)) ∧ Below w1.heap.size w1 w'
theorem tells_of (sb lim : Nat) (A : Option Addr) (c : Nat) (L : List En) (w : World) (hS : StoreAt w sb lim A c L) (hN : Nest 0 0 L) (hL : L.length ≤ 1048576) : TellsOf w sb L :=
  ⟨fun w1 h => len_any sb lim A c L w1 (hS.below h), fun n h1 h2 w1 h => parent_of sb lim A c L n w1 (hS.below h) hL h1 h2, fun n h1 h2 w1 h => end_of sb lim A c L n w1 (hS.below h) hL h1 h2, fun n h1 h2 w1 h => root_of sb lim A c L n w1 (hS.below h) hN hL h1 h2⟩
theorem all_of {L : List En} (h : Nest 0 0 L) {n : Nat} (h1 : 1 ≤ n) (h2 : n ≤ L.length) :
    par L n < n ∧ n ≤ fin L n ∧ fin L n ≤ L.length ∧ (par L n = 0 → rootOf L n = n) ∧ (par L n ≠ 0 → rootOf L n = rootOf L (par L n) ∧ fin L n ≤ fin L (par L n)) := by
  have hp := par_lt h h1 h2
  refine ⟨hp, (fin_ge h h1 h2).1, (fin_ge h h1 h2).2, root_zero h h1 h2, fun h0 => ⟨root_up h h1 h2 h0, ?_⟩⟩
  have hn := fin_nest h (n := par L n) (m := n) (by omega) hp h2
  exact hn.2 (hn.1.2 ⟨Nat.le_refl _, (fin_ge h (by omega) (by omega)).1⟩)
def TreesAt (w : World) (A0 : Option Addr) (nt : Nat) (ts : List Tr) : Prop :=
  RdP (fun b => b < w.heap.size) w 5 A0 nt (rowT ts) ∧ ts.length = nt ∧ (∀ t ∈ ts, t.In (fun b => b < w.heap.size) w) ∧ ∀ t ∈ ts, t.pl.lens
theorem nests_many (A0 : Option Addr) (cap0 nt : Nat) (w : World) (hn : ¬ nt ≤ 10) (HW : Hid (∀ w1 : World, Below w.heap.size w w1 → Calls Tryd.prog 12 #[] w1 fun e w' => e = .returned (.bool true) ∧ Below w1.heap.size w1 w')) :
    Calls Tryd.prog 5 #[.slice A0 nt cap0] w fun e w' => e = .returned (.bool true) ∧ Below w.heap.size w w' := by
  have g1 : decide ((nt : Int) > 10) = true := by simp; omega
  have g2 : decide (10 < (nt : Int)) = true := by simp; omega
  go_enter Tryd.func5, Tryd.ntmps5
  go_wp2_with (go_at_call 12; go_must (refine (HW.out _ (by repeat (with_reducible (first | exact Below.refl _ _ | assumption | apply ba | apply bd | apply bdr | (refine bs ?_ (by first | assumption | (simp; done) | (simp; omega))) | (refine bt ?_ (by assumption)))))).mono ?_); rintro e w1 ⟨rfl, hb1⟩)
  go_ret
  exact ⟨rfl, by repeat (with_reducible (first | exact Below.refl _ _ | assumption | apply ba | apply bd | apply bdr | (refine bs ?_ (by first | assumption | (simp; done) | (simp; omega))) | (refine bt ?_ (by assumption))))⟩
theorem nests_few (A0 : Option Addr) (cap0 nt : Nat) (ts : List Tr) (w : World) (hn : nt ≤ 10) (hT : tabs w) (hTS : Hid (TreesAt w A0 nt ts)) (HW : Hid (∀ w1 : World, Below w.heap.size w w1 → Calls Tryd.prog 12 #[] w1 fun e w' => e = .returned (.bool true) ∧ Below w1.heap.size w1 w')) :
    Calls Tryd.prog 5 #[.slice A0 nt cap0] w fun e w' => e = .returned (.bool true) ∧ Below w.heap.size w w' := by
  have g1 : decide ((nt : Int) > 10) = false := by simp; omega
  have g2 : decide (10 < (nt : Int)) = false := by simp; omega
  have HT := Lib.hid hT
  have HNEW := Lib.hid (fun (w1 : World) => (new_any 2000 w1 (by decide) (by decide)).mono (fun e w' h => (⟨h.1, h.2 ▸ new_store 2000 w1, h.2 ▸ ba (Below.refl _ _)⟩ : e = _ ∧ StoreAt w' w1.heap.size 2000 none 0 [] ∧ Below w1.heap.size w1 w')))
  simp only [show ((2000 : Nat) : Int) = 2000 from rfl] at HNEW
  clear hT
  go_enter Tryd.func5, Tryd.ntmps5
  go_wp2_with fail
  refine (HW.out _ (by repeat (with_reducible (first | exact Below.refl _ _ | assumption | apply ba | apply bd | apply bdr | (refine bs ?_ (by first | assumption | (simp; done) | (simp; omega))) | (refine bt ?_ (by assumption)))))).mono ?_; rintro e w1 ⟨rfl, hb1⟩
  have hsz1 := hb1.size
  clear HW
  go_wp2_with fail
  refine (HNEW.out _).mono ?_
  rintro e w2 ⟨rfl, hst2, hb2⟩
  have HST := Lib.hid hst2
  have B2 : Below w.heap.size w w2 := by repeat (with_reducible (first | exact Below.refl _ _ | assumption | apply ba | apply bd | apply bdr | (refine bs ?_ (by first | assumption | (simp; done) | (simp; omega))) | (refine bt ?_ (by assumption))))
  obtain ⟨sb, hsb⟩ : ∃ sb, w1.heap.size = sb := ⟨_, rfl⟩
  rw [hsb] at HST hsz1
  simp only [hsb]
  have hwsb : w.heap.size ≤ sb := by simpa using hsz1
  clear hst2 hb2 hb1 hsb hsz1 HNEW
  go_wp2
  go_loopw [5] (fun s5 wx => ∃ (i : Nat) (A' : Option Addr) (c' : Nat) (L' : List En), s5 = .int .i64 i ∧ i ≤ nt ∧ Hid (StoreAt wx sb 2000 A' c' L') ∧ Hid (Nest 0 0 L') ∧ Hid (L'.length ≤ 2000) ∧ Below w.heap.size w wx) (fun s5 _ => nt - (intOf s5).toNat)
  case atStart =>
    exact ⟨0, none, 0, [], rfl, by omega, HST, Lib.hid (Nest.nil 0 0), Lib.hid (by simp), B2⟩
  case round =>
    obtain ⟨i, A6, c6, L6, rfl, hi, hS6, hN6, hL6, hB6⟩ := hrel
    clear B2 HST
    by_cases hlt : i < nt
    · have gi : decide ((i : Int) < (nt : Int)) = true := by first | (simp; done) | (simp; omega)
      obtain ⟨hR, hlen, hin, hbk⟩ := hTS.out
      have hil : i < ts.length := by omega
      obtain ⟨t, ht⟩ : ∃ t, ts[i]? = some t := ⟨_, List.getElem?_eq_getElem hil⟩
      have htm := List.mem_of_getElem? ht
      have hin' := (hin t htm).below (fun _ h => h) hB6
      have hbk' := hbk t htm
      have hPw : ∀ b, b < w.heap.size → b < wr.heap.size := fun b hb => Nat.lt_of_lt_of_le hb hB6.size
      have HCP := Lib.hid (fun (hs : t.pl.size ≤ 100) (w3 : World) (hb3 : Below wr.heap.size wr w3) => copy_any t _ w3 (hin'.below hPw hb3) (fun b hb => Nat.lt_of_lt_of_le (hPw b hb) hb3.size) ⟨by omega, hbk'⟩)
      obtain ⟨T, hTe⟩ : ∃ T, t.pl = T := ⟨_, rfl⟩
      have HTE := Lib.hid hTe
      rw [hTe] at HCP hbk'
      have HBK := Lib.hid hbk'
      obtain ⟨k, n, v, A, ac, ps, K, kc, ks⟩ := t
      obtain ⟨ad, rfl, hPad, d0, d1, d2, d3, d4⟩ := kid_at (hR.below (fun _ h => h) hB6) ht hlt
      have hb0 : (ad.add (i * 5)).block < wr.heap.size := by rw [block_of_add]; exact hPw _ hPad
      have HF : Hid (∀ (w3 : World) (g cap : Nat), Below wr.heap.size wr w3 → g < w3.heap.size → w3.cell? ⟨g, 0, none⟩ = some (.int .i64 k) → w3.cell? ⟨g, 1, none⟩ = some (.string (ba' n)) → w3.cell? ⟨g, 2, none⟩ = some (.string (ba' v)) → w3.cell? ⟨g, 3, none⟩ = some (.slice A ps.length ac) → w3.cell? ⟨g, 4, none⟩ = some (.slice K ks.length kc) →
          Calls Tryd.prog 14 #[.int .i64 100, .slice (some ⟨g, 0, none⟩) 1 cap] w3 fun e w' => e = .returned (.bool (decide ((Tr.mk k n v A ac ps K kc ks).pl.size ≤ 100))) ∧ Below w3.heap.size w3 w') :=
        Lib.hid fun w3 g cap h1 hg h0 ha hb hc hd => few_one k n v A ac ps K kc ks _ w3 100 g cap (hin'.below hPw h1) (fun b hb => Nat.lt_of_lt_of_le (hPw b hb) h1.size) (by rw [HTE.out]; exact HBK.out) (by omega) hg h0 ha hb hc hd
      obtain ⟨fb, hfb⟩ : ∃ fb, decide ((Tr.mk k n v A ac ps K kc ks).pl.size ≤ 100) = fb := ⟨_, rfl⟩
      rw [hfb] at HF
      have HSZ : Hid (fb = true → T.size ≤ 100) := Lib.hid fun h => by rw [← hfb, hTe] at h; exact of_decide_eq_true h
      obtain ⟨np, hnp⟩ : ∃ q, ps.length = q := ⟨_, rfl⟩
      obtain ⟨nk, hnk⟩ : ∃ q, ks.length = q := ⟨_, rfl⟩
      simp only [Tr.v] at HCP
      rw [hnp, hnk] at HCP HF
      rw [hnp] at d3
      rw [hnk] at d4
      clear hR hin hbk ht htm hil hin' hbk' hTe hfb hnp hnk hlen hTS HTE
      have HB6 := Lib.hid hB6
      have HPW := Lib.hid hPw
      have HLT6 := Lib.hid (fun (b : Nat) (h : blkOf A6 = some b) => hS6.out.lt h)
      have hsbr : sb < wr.heap.size := hS6.out.1
      clear hPw hPad
      go_wp2_with fail
      refine (HF.out _ _ _ (by repeat (with_reducible (first | exact Below.refl _ _ | assumption | apply ba | apply bd | apply bdr | (refine bs ?_ (by first | assumption | (simp; done) | (simp; omega))) | (refine bt ?_ (by assumption))))) (by simp) (by first | (simp; done) | (simp [*]; done)) (by first | (simp; done) | (simp [*]; done)) (by first | (simp; done) | (simp [*]; done)) (by first | (simp; done) | (simp [*]; done)) (by first | (simp; done) | (simp [*]; done))).mono ?_
      rintro e w3 ⟨rfl, hb3⟩
      have B3 : Below wr.heap.size wr w3 := by repeat (with_reducible (first | exact Below.refl _ _ | assumption | apply ba | apply bd | apply bdr | (refine bs ?_ (by first | assumption | (simp; done) | (simp; omega))) | (refine bt ?_ (by assumption))))
      have d0 := (B3.cell hb0).trans d0
      have d1 := (B3.cell (show ({ block := (ad.add (i * 5)).block, off := (ad.add (i * 5)).off + 1 } : Addr).block < wr.heap.size from hb0)).trans d1
      have d2 := (B3.cell (show ({ block := (ad.add (i * 5)).block, off := (ad.add (i * 5)).off + 2 } : Addr).block < wr.heap.size from hb0)).trans d2
      have d3 := (B3.cell (show ({ block := (ad.add (i * 5)).block, off := (ad.add (i * 5)).off + 3 } : Addr).block < wr.heap.size from hb0)).trans d3
      have d4 := (B3.cell (show ({ block := (ad.add (i * 5)).block, off := (ad.add (i * 5)).off + 4 } : Addr).block < wr.heap.size from hb0)).trans d4
      clear hb3 HF
      cases fb with
      | false =>
        clear d0 d1 d2 d3 d4 HCP
        go_wp2
        go_roundw
        case rel => exact ⟨i + 1, A6, c6, L6, by go_num, by omega, Lib.hid (hS6.out.below B3), hN6, hL6, bt HB6.out B3⟩
        case measure => simp [intOf]; omega
      | true =>
        go_wp2_with fail
        refine (HCP.out (HSZ.out (by first | trivial | rfl)) _ (by repeat (with_reducible (first | exact Below.refl _ _ | assumption | apply ba | apply bd | apply bdr | (refine bs ?_ (by first | assumption | (simp; done) | (simp; omega))) | (refine bt ?_ (by assumption)))))).mono ?_
        rintro e w4 ⟨t2, rfl, hpl, hin2, hb4⟩
        have B4 : Below wr.heap.size wr w4 := bt B3 hb4
        have z3 := B3.size
        have hap : Apart (NewB w3 w4) sb A6 w4 := fun b hb => ⟨hb.2, by have := hb.1; omega, fun h => by have := (HLT6.out b h).2; have := hb.1; omega⟩
        have HB2 := Lib.hid (build_nest t2 (NewB w3 w4) w4 sb 2000 A6 c6 L6 (Utf8Tabs_below HT.out (bt HB6.out B4)) (hS6.out.below B4) hin2 hap (by rw [hpl]; exact ⟨by have := HSZ.out (by first | trivial | rfl); omega, HBK.out⟩) (by decide) hL6.out hN6.out)
        obtain ⟨k2, n2, v2, A2, ac2, ps2, K2, kc2, ks2⟩ := t2
        simp only [Tr.v] at HB2 ⊢
        clear hpl hin2 hap d0 d1 d2 d3 d4 HCP
        go_wp2_with fail
        refine HB2.out.mono ?_
        rintro e w5 ⟨⟨n5, z5, rfl⟩, A5, c5, L5, hS5, hB5, hN5, hL5⟩
        have HS5 := Lib.hid hS5
        have HBS5 := Lib.hid hB5
        have HN5 := Lib.hid hN5
        have HL5 := Lib.hid hL5
        clear hS5 hB5 hN5 hL5 HB2
        go_wp2
        go_roundw
        case rel =>
          have z4 := B4.size
          have zz6 := HB6.out.size
          exact ⟨i + 1, A5, c5, L5, by go_num, by omega, HS5, HN5, HL5, (bt HB6.out B4).trans (HBS5.out.below (by omega) (fun b h => by have := (HLT6.out b h).1; omega) (by omega))⟩
        case measure => simp [intOf]; omega
    · obtain rfl : i = nt := by omega
      have gi : decide ((i : Int) < (i : Int)) = false := by simp
      clear hlt hTS
      have HTO := Lib.hid (tells_of sb 2000 A6 c6 L6 wr hS6.out hN6.out (by have := hL6.out; omega))
      have HB6 := Lib.hid hB6
      obtain ⟨ln, hln⟩ : ∃ ln, L6.length = ln := ⟨_, rfl⟩
      have HLE := Lib.hid HTO.out.len
      have HPA := Lib.hid HTO.out.par
      have HFI := Lib.hid HTO.out.fin
      have HRO := Lib.hid HTO.out.root
      have HNE := Lib.hid (fun (n m : Nat) (h1 : 1 ≤ n) (h2 : n < m) (h3 : m ≤ L6.length) => fin_nest hN6.out h1 h2 h3)
      have HU := Lib.hid (fun (n : Nat) (h1 : 1 ≤ n) (h2 : n ≤ L6.length) => all_of hN6.out h1 h2)
      rw [hln] at HLE HPA HFI HRO HNE HU
      clear HTO hS6 hL6 hB6 hln hN6
      obtain ⟨wB, rfl⟩ : ∃ wB, wB = wr := ⟨_, rfl⟩
      go_wp2
      go_loopw [6] (fun s6 wx => ∃ n : Nat, s6 = .int .i64 n ∧ 1 ≤ n ∧ n ≤ 301 ∧ Below wB.heap.size wB wx) (fun s6 _ => 301 - (intOf s6).toNat)
      case atStart => exact ⟨1, rfl, by omega, by omega, Below.refl _ _⟩
      case round =>
        obtain ⟨n, rfl, h1, hn3, hBn⟩ := hrel
        by_cases hnl : n ≤ ln
        · have q1 : decide ((n : Int) ≤ (ln : Int)) = true := by first | (simp; done) | (simp; omega)
          have nq1 : decide (n ≤ ln) = true := by first | (simp; done) | (simp; omega)
          by_cases hn2 : n ≤ 300
          · have q2 : decide ((n : Int) ≤ 300) = true := by first | (simp; done) | (simp; omega)
            have nq2 : decide (n ≤ 300) = true := by first | (simp; done) | (simp; omega)
            obtain ⟨hpn, hfl, hfu, hr0, hrp⟩ := HU.out n h1 hnl
            have HPn := Lib.hid (HPA.out n h1 hnl)
            have HFn := Lib.hid (HFI.out n h1 hnl)
            have HRn := Lib.hid (HRO.out n h1 hnl)
            obtain ⟨fn, hfn⟩ : ∃ fn, fin L6 n = fn := ⟨_, rfl⟩
            obtain ⟨rn, hrn⟩ : ∃ rn, rootOf L6 n = rn := ⟨_, rfl⟩
            rw [hfn] at HFn hfl hfu hrp
            rw [hrn] at HRn hr0 hrp
            have q3 : decide ((fn : Int) < (n : Int)) = false := by first | (simp; done) | (simp; omega)
            have nq3 : decide (fn < n) = false := by first | (simp; done) | (simp; omega)
            have HFL := Lib.hid hfl
            clear hfl
            by_cases hp0 : par L6 n = 0
            · rw [hp0] at HPn
              simp only [show ((0 : Nat) : Int) = 0 from rfl] at HPn
              obtain rfl : rn = n := hr0 hp0
              clear hr0 hrp hpn
              have q4 : decide ((0 : Int) ≥ (rn : Int)) = false := by first | (simp; done) | (simp; omega)
              have nq4 : decide (rn ≤ 0) = false := by first | (simp; done) | (simp; omega)
              have q5 : decide ((rn : Int) ≤ 0) = false := by first | (simp; done) | (simp; omega)
              have nq5 : decide (rn ≤ 0) = false := by first | (simp; done) | (simp; omega)
              go_wp2_with fail
              refine (HLE.out _ (by repeat (with_reducible (first | exact Below.refl _ _ | assumption | apply ba | apply bd | apply bdr | (refine bs ?_ (by first | assumption | (simp; done) | (simp; omega))) | (refine bt ?_ (by assumption)))))).mono ?_; rintro e vl0 ⟨rfl, hvl0⟩; have Bvl0 : Below wB.heap.size wB vl0 := by repeat (with_reducible (first | exact Below.refl _ _ | assumption | apply ba | apply bd | apply bdr | (refine bs ?_ (by first | assumption | (simp; done) | (simp; omega))) | (refine bt ?_ (by assumption))))
              go_wp2_with fail
              refine (HPn.out _ (by repeat (with_reducible (first | exact Below.refl _ _ | assumption | apply ba | apply bd | apply bdr | (refine bs ?_ (by first | assumption | (simp; done) | (simp; omega))) | (refine bt ?_ (by assumption)))))).mono ?_; rintro e vp ⟨rfl, hvp⟩; have Bvp : Below wB.heap.size wB vp := by repeat (with_reducible (first | exact Below.refl _ _ | assumption | apply ba | apply bd | apply bdr | (refine bs ?_ (by first | assumption | (simp; done) | (simp; omega))) | (refine bt ?_ (by assumption))))
              go_wp2_with fail
              refine (HFn.out _ (by repeat (with_reducible (first | exact Below.refl _ _ | assumption | apply ba | apply bd | apply bdr | (refine bs ?_ (by first | assumption | (simp; done) | (simp; omega))) | (refine bt ?_ (by assumption)))))).mono ?_; rintro e v1 ⟨rfl, hv1⟩; have Bv1 : Below wB.heap.size wB v1 := by repeat (with_reducible (first | exact Below.refl _ _ | assumption | apply ba | apply bd | apply bdr | (refine bs ?_ (by first | assumption | (simp; done) | (simp; omega))) | (refine bt ?_ (by assumption))))
              go_wp2_with fail
              refine (HRn.out _ (by repeat (with_reducible (first | exact Below.refl _ _ | assumption | apply ba | apply bd | apply bdr | (refine bs ?_ (by first | assumption | (simp; done) | (simp; omega))) | (refine bt ?_ (by assumption)))))).mono ?_; rintro e v2 ⟨rfl, hv2⟩; have Bv2 : Below wB.heap.size wB v2 := by repeat (with_reducible (first | exact Below.refl _ _ | assumption | apply ba | apply bd | apply bdr | (refine bs ?_ (by first | assumption | (simp; done) | (simp; omega))) | (refine bt ?_ (by assumption))))
              go_wp2
              skip
              go_loopw [8] (fun s8 wx => ∃ m : Nat, s8 = .int .i64 m ∧ rn < m ∧ m ≤ 301 ∧ Below wB.heap.size wB wx) (fun s8 _ => 301 - (intOf s8).toNat)
              case atStart => exact ⟨rn + 1, by go_num, by omega, by omega, by assumption⟩
              case round =>
                obtain ⟨m, rfl, hnm, hm3, hBm⟩ := hrel
                by_cases hml : m ≤ ln
                · have j1 : decide ((m : Int) ≤ (ln : Int)) = true := by first | (simp; done) | (simp; omega)
                  have nj1 : decide (m ≤ ln) = true := by first | (simp; done) | (simp; omega)
                  by_cases hm2 : m ≤ 300
                  · have j2 : decide ((m : Int) ≤ 300) = true := by first | (simp; done) | (simp; omega)
                    have nj2 : decide (m ≤ 300) = true := by first | (simp; done) | (simp; omega)
                    have hnest := (HNE.out rn m h1 hnm hml).2
                    have HFm := Lib.hid (HFI.out m (by omega) hml)
                    obtain ⟨fm, hfm⟩ : ∃ fm, fin L6 m = fm := ⟨_, rfl⟩
                    rw [hfm] at HFm hnest
                    rw [hfn] at hnest
                    clear hfm
                    go_wp2_with fail
                    refine (HLE.out _ (by repeat (with_reducible (first | exact Below.refl _ _ | assumption | apply ba | apply bd | apply bdr | (refine bs ?_ (by first | assumption | (simp; done) | (simp; omega))) | (refine bt ?_ (by assumption)))))).mono ?_; rintro e vl ⟨rfl, hvl⟩; have Bvl : Below wB.heap.size wB vl := by repeat (with_reducible (first | exact Below.refl _ _ | assumption | apply ba | apply bd | apply bdr | (refine bs ?_ (by first | assumption | (simp; done) | (simp; omega))) | (refine bt ?_ (by assumption))))
                    go_wp2_with fail
                    refine (HFn.out _ (by repeat (with_reducible (first | exact Below.refl _ _ | assumption | apply ba | apply bd | apply bdr | (refine bs ?_ (by first | assumption | (simp; done) | (simp; omega))) | (refine bt ?_ (by assumption)))))).mono ?_; rintro e vf ⟨rfl, hvf⟩; have Bvf : Below wB.heap.size wB vf := by repeat (with_reducible (first | exact Below.refl _ _ | assumption | apply ba | apply bd | apply bdr | (refine bs ?_ (by first | assumption | (simp; done) | (simp; omega))) | (refine bt ?_ (by assumption))))
                    by_cases hmf : m ≤ fn
                    · have j3 : decide ((m : Int) ≤ (fn : Int)) = true := by first | (simp; done) | (simp; omega)
                      have nj3 : decide (m ≤ fn) = true := by first | (simp; done) | (simp; omega)
                      have hle := hnest hmf
                      have j4 : decide ((fm : Int) > (fn : Int)) = false := by first | (simp; done) | (simp; omega)
                      have nj4 : decide (fn < fm) = false := by first | (simp; done) | (simp; omega)
                      have j5 : decide ((fn : Int) < (fm : Int)) = false := by first | (simp; done) | (simp; omega)
                      have nj5 : decide (fn < fm) = false := by first | (simp; done) | (simp; omega)
                      clear hnest
                      go_wp2_with fail
                      refine (HFm.out _ (by repeat (with_reducible (first | exact Below.refl _ _ | assumption | apply ba | apply bd | apply bdr | (refine bs ?_ (by first | assumption | (simp; done) | (simp; omega))) | (refine bt ?_ (by assumption)))))).mono ?_; rintro e va ⟨rfl, hva⟩; have Bva : Below wB.heap.size wB va := by repeat (with_reducible (first | exact Below.refl _ _ | assumption | apply ba | apply bd | apply bdr | (refine bs ?_ (by first | assumption | (simp; done) | (simp; omega))) | (refine bt ?_ (by assumption))))
                      go_wp2_with fail
                      refine (HFn.out _ (by repeat (with_reducible (first | exact Below.refl _ _ | assumption | apply ba | apply bd | apply bdr | (refine bs ?_ (by first | assumption | (simp; done) | (simp; omega))) | (refine bt ?_ (by assumption)))))).mono ?_; rintro e vb ⟨rfl, hvb⟩; have Bvb : Below wB.heap.size wB vb := by repeat (with_reducible (first | exact Below.refl _ _ | assumption | apply ba | apply bd | apply bdr | (refine bs ?_ (by first | assumption | (simp; done) | (simp; omega))) | (refine bt ?_ (by assumption))))
                      go_wp2
                      skip
                      go_loopw [10] (fun s10 wx => ∃ u : Nat, s10 = .int .i64 u ∧ u ≤ ln ∧ Hid ((m ≤ fn) ↔ (rn ≤ u ∧ u ≤ fn)) ∧ Below wB.heap.size wB wx) (fun s10 _ => (intOf s10).toNat)
                      case atStart => exact ⟨m, rfl, by omega, Lib.hid ⟨fun h => ⟨by omega, h⟩, fun h => h.2⟩, by assumption⟩
                      case round =>
                        obtain ⟨u, rfl, hu, hrel, hBu⟩ := hrel
                        by_cases hun : rn < u
                        · have k1 : decide ((u : Int) > (rn : Int)) = true := by first | (simp; done) | (simp; omega)
                          have nk1 : decide (rn < u) = true := by first | (simp; done) | (simp; omega)
                          have k2 : decide ((rn : Int) < (u : Int)) = true := by first | (simp; done) | (simp; omega)
                          have nk2 : decide (rn < u) = true := by first | (simp; done) | (simp; omega)
                          have HPu := Lib.hid (HPA.out u (by omega) hu)
                          have hnu := (HNE.out rn u h1 hun hu).1
                          have hlt := (HU.out u (by omega) hu).1
                          obtain ⟨pu, hpu⟩ : ∃ pu, par L6 u = pu := ⟨_, rfl⟩
                          rw [hpu] at HPu hnu hlt
                          rw [hfn] at hnu
                          have HRL := Lib.hid (hrel.out.trans ((and_congr_right fun h => hnu).trans ⟨fun h => h.2, fun h => ⟨by omega, h⟩⟩))
                          clear hrel hnu hpu
                          go_wp2_with fail
                          refine (HPu.out _ (by repeat (with_reducible (first | exact Below.refl _ _ | assumption | apply ba | apply bd | apply bdr | (refine bs ?_ (by first | assumption | (simp; done) | (simp; omega))) | (refine bt ?_ (by assumption)))))).mono ?_; rintro e vu ⟨rfl, hvu⟩; have Bvu : Below wB.heap.size wB vu := by repeat (with_reducible (first | exact Below.refl _ _ | assumption | apply ba | apply bd | apply bdr | (refine bs ?_ (by first | assumption | (simp; done) | (simp; omega))) | (refine bt ?_ (by assumption))))
                          go_wp2
                          go_roundw
                          case rel => exact ⟨pu, rfl, by omega, HRL, Bvu⟩
                          case measure => simp [intOf]; omega
                        · have k1 : decide ((u : Int) > (rn : Int)) = false := by first | (simp; done) | (simp; omega)
                          have nk1 : decide (rn < u) = false := by first | (simp; done) | (simp; omega)
                          have k2 : decide ((rn : Int) < (u : Int)) = false := by first | (simp; done) | (simp; omega)
                          have nk2 : decide (rn < u) = false := by first | (simp; done) | (simp; omega)
                          have hr := hrel.out
                          obtain rfl : u = rn := by have := hr.1 hmf; have := HFL.out; omega
                          clear hr hrel hun
                          go_wp2
                          go_roundw
                          case rel => exact ⟨m + 1, by go_num, by omega, by omega, by assumption⟩
                          case measure => simp [intOf]; omega
                    · have j3 : decide ((m : Int) ≤ (fn : Int)) = false := by first | (simp; done) | (simp; omega)
                      have nj3 : decide (m ≤ fn) = false := by first | (simp; done) | (simp; omega)
                      clear hnest
                      go_wp2
                      skip
                      go_loopw [10] (fun s10 wx => ∃ u : Nat, s10 = .int .i64 u ∧ u ≤ ln ∧ Hid ((m ≤ fn) ↔ (rn ≤ u ∧ u ≤ fn)) ∧ Below wB.heap.size wB wx) (fun s10 _ => (intOf s10).toNat)
                      case atStart => exact ⟨m, rfl, by omega, Lib.hid ⟨fun h => ⟨by omega, h⟩, fun h => h.2⟩, by assumption⟩
                      case round =>
                        obtain ⟨u, rfl, hu, hrel, hBu⟩ := hrel
                        by_cases hun : rn < u
                        · have k1 : decide ((u : Int) > (rn : Int)) = true := by first | (simp; done) | (simp; omega)
                          have nk1 : decide (rn < u) = true := by first | (simp; done) | (simp; omega)
                          have k2 : decide ((rn : Int) < (u : Int)) = true := by first | (simp; done) | (simp; omega)
                          have nk2 : decide (rn < u) = true := by first | (simp; done) | (simp; omega)
                          have HPu := Lib.hid (HPA.out u (by omega) hu)
                          have hnu := (HNE.out rn u h1 hun hu).1
                          have hlt := (HU.out u (by omega) hu).1
                          obtain ⟨pu, hpu⟩ : ∃ pu, par L6 u = pu := ⟨_, rfl⟩
                          rw [hpu] at HPu hnu hlt
                          rw [hfn] at hnu
                          have HRL := Lib.hid (hrel.out.trans ((and_congr_right fun h => hnu).trans ⟨fun h => h.2, fun h => ⟨by omega, h⟩⟩))
                          clear hrel hnu hpu
                          go_wp2_with fail
                          refine (HPu.out _ (by repeat (with_reducible (first | exact Below.refl _ _ | assumption | apply ba | apply bd | apply bdr | (refine bs ?_ (by first | assumption | (simp; done) | (simp; omega))) | (refine bt ?_ (by assumption)))))).mono ?_; rintro e vu ⟨rfl, hvu⟩; have Bvu : Below wB.heap.size wB vu := by repeat (with_reducible (first | exact Below.refl _ _ | assumption | apply ba | apply bd | apply bdr | (refine bs ?_ (by first | assumption | (simp; done) | (simp; omega))) | (refine bt ?_ (by assumption))))
                          go_wp2
                          go_roundw
                          case rel => exact ⟨pu, rfl, by omega, HRL, Bvu⟩
                          case measure => simp [intOf]; omega
                        · have k1 : decide ((u : Int) > (rn : Int)) = false := by first | (simp; done) | (simp; omega)
                          have nk1 : decide (rn < u) = false := by first | (simp; done) | (simp; omega)
                          have k2 : decide ((rn : Int) < (u : Int)) = false := by first | (simp; done) | (simp; omega)
                          have nk2 : decide (rn < u) = false := by first | (simp; done) | (simp; omega)
                          have hr := hrel.out
                          have hne : ¬ u = rn := fun h => hmf (hr.2 ⟨by omega, by have := HFL.out; omega⟩)
                          have k3 : decide ((u : Int) = (rn : Int)) = false := by simp; omega
                          have nk3 : decide (u = rn) = false := by first | (simp; done) | (simp; omega)
                          clear hr hrel hun
                          go_wp2
                          go_roundw
                          case rel => exact ⟨m + 1, by go_num, by omega, by omega, by assumption⟩
                          case measure => simp [intOf]; omega
                  · have j2 : decide ((m : Int) ≤ 300) = false := by first | (simp; done) | (simp; omega)
                    have nj2 : decide (m ≤ 300) = false := by first | (simp; done) | (simp; omega)
                    go_wp2_with fail
                    refine (HLE.out _ (by repeat (with_reducible (first | exact Below.refl _ _ | assumption | apply ba | apply bd | apply bdr | (refine bs ?_ (by first | assumption | (simp; done) | (simp; omega))) | (refine bt ?_ (by assumption)))))).mono ?_; rintro e vl ⟨rfl, hvl⟩; have Bvl : Below wB.heap.size wB vl := by repeat (with_reducible (first | exact Below.refl _ _ | assumption | apply ba | apply bd | apply bdr | (refine bs ?_ (by first | assumption | (simp; done) | (simp; omega))) | (refine bt ?_ (by assumption))))
                    go_wp2
                    go_roundw
                    case rel => exact ⟨rn + 1, by go_num, by omega, by omega, by assumption⟩
                    case measure => simp [intOf]; omega
                · have j1 : decide ((m : Int) ≤ (ln : Int)) = false := by first | (simp; done) | (simp; omega)
                  have nj1 : decide (m ≤ ln) = false := by first | (simp; done) | (simp; omega)
                  go_wp2_with fail
                  refine (HLE.out _ (by repeat (with_reducible (first | exact Below.refl _ _ | assumption | apply ba | apply bd | apply bdr | (refine bs ?_ (by first | assumption | (simp; done) | (simp; omega))) | (refine bt ?_ (by assumption)))))).mono ?_; rintro e vl ⟨rfl, hvl⟩; have Bvl : Below wB.heap.size wB vl := by repeat (with_reducible (first | exact Below.refl _ _ | assumption | apply ba | apply bd | apply bdr | (refine bs ?_ (by first | assumption | (simp; done) | (simp; omega))) | (refine bt ?_ (by assumption))))
                  go_wp2
                  go_roundw
                  case rel => exact ⟨rn + 1, by go_num, by omega, by omega, by assumption⟩
                  case measure => simp [intOf]; omega
            · have hrp' := hrp hp0
              obtain ⟨p, hp⟩ : ∃ p, par L6 n = p := ⟨_, rfl⟩
              rw [hp] at HPn hrp' hpn hp0
              have HFp := Lib.hid (HFI.out p (by omega) (by omega))
              have HRp := Lib.hid (HRO.out p (by omega) (by omega))
              obtain ⟨fp, hfp⟩ : ∃ fp, fin L6 p = fp := ⟨_, rfl⟩
              rw [hfp] at HFp hrp'
              rw [← hrp'.1] at HRp
              have hle := hrp'.2
              clear hr0 hrp hrp' hp hfp
              have q4 : decide ((p : Int) ≥ (n : Int)) = false := by first | (simp; done) | (simp; omega)
              have nq4 : decide (n ≤ p) = false := by first | (simp; done) | (simp; omega)
              have q5 : decide ((n : Int) ≤ (p : Int)) = false := by first | (simp; done) | (simp; omega)
              have nq5 : decide (n ≤ p) = false := by first | (simp; done) | (simp; omega)
              have q6 : decide ((p : Int) = 0) = false := by first | (simp; done) | (simp; omega)
              have nq6 : decide (p = 0) = false := by first | (simp; done) | (simp; omega)
              have q7 : decide ((fp : Int) < (fn : Int)) = false := by first | (simp; done) | (simp; omega)
              have nq7 : decide (fp < fn) = false := by first | (simp; done) | (simp; omega)
              have hpz : ¬ (p : Int) = 0 := by omega
              go_wp2_with fail
              refine (HLE.out _ (by repeat (with_reducible (first | exact Below.refl _ _ | assumption | apply ba | apply bd | apply bdr | (refine bs ?_ (by first | assumption | (simp; done) | (simp; omega))) | (refine bt ?_ (by assumption)))))).mono ?_; rintro e vl0 ⟨rfl, hvl0⟩; have Bvl0 : Below wB.heap.size wB vl0 := by repeat (with_reducible (first | exact Below.refl _ _ | assumption | apply ba | apply bd | apply bdr | (refine bs ?_ (by first | assumption | (simp; done) | (simp; omega))) | (refine bt ?_ (by assumption))))
              go_wp2_with fail
              refine (HPn.out _ (by repeat (with_reducible (first | exact Below.refl _ _ | assumption | apply ba | apply bd | apply bdr | (refine bs ?_ (by first | assumption | (simp; done) | (simp; omega))) | (refine bt ?_ (by assumption)))))).mono ?_; rintro e vp ⟨rfl, hvp⟩; have Bvp : Below wB.heap.size wB vp := by repeat (with_reducible (first | exact Below.refl _ _ | assumption | apply ba | apply bd | apply bdr | (refine bs ?_ (by first | assumption | (simp; done) | (simp; omega))) | (refine bt ?_ (by assumption))))
              go_wp2_with fail
              refine (HFn.out _ (by repeat (with_reducible (first | exact Below.refl _ _ | assumption | apply ba | apply bd | apply bdr | (refine bs ?_ (by first | assumption | (simp; done) | (simp; omega))) | (refine bt ?_ (by assumption)))))).mono ?_; rintro e v1 ⟨rfl, hv1⟩; have Bv1 : Below wB.heap.size wB v1 := by repeat (with_reducible (first | exact Below.refl _ _ | assumption | apply ba | apply bd | apply bdr | (refine bs ?_ (by first | assumption | (simp; done) | (simp; omega))) | (refine bt ?_ (by assumption))))
              go_wp2_with fail
              refine (HFp.out _ (by repeat (with_reducible (first | exact Below.refl _ _ | assumption | apply ba | apply bd | apply bdr | (refine bs ?_ (by first | assumption | (simp; done) | (simp; omega))) | (refine bt ?_ (by assumption)))))).mono ?_; rintro e v2 ⟨rfl, hv2⟩; have Bv2 : Below wB.heap.size wB v2 := by repeat (with_reducible (first | exact Below.refl _ _ | assumption | apply ba | apply bd | apply bdr | (refine bs ?_ (by first | assumption | (simp; done) | (simp; omega))) | (refine bt ?_ (by assumption))))
              go_wp2_with fail
              refine (HFn.out _ (by repeat (with_reducible (first | exact Below.refl _ _ | assumption | apply ba | apply bd | apply bdr | (refine bs ?_ (by first | assumption | (simp; done) | (simp; omega))) | (refine bt ?_ (by assumption)))))).mono ?_; rintro e v3 ⟨rfl, hv3⟩; have Bv3 : Below wB.heap.size wB v3 := by repeat (with_reducible (first | exact Below.refl _ _ | assumption | apply ba | apply bd | apply bdr | (refine bs ?_ (by first | assumption | (simp; done) | (simp; omega))) | (refine bt ?_ (by assumption))))
              go_wp2_with fail
              refine (HRp.out _ (by repeat (with_reducible (first | exact Below.refl _ _ | assumption | apply ba | apply bd | apply bdr | (refine bs ?_ (by first | assumption | (simp; done) | (simp; omega))) | (refine bt ?_ (by assumption)))))).mono ?_; rintro e v4 ⟨rfl, hv4⟩; have Bv4 : Below wB.heap.size wB v4 := by repeat (with_reducible (first | exact Below.refl _ _ | assumption | apply ba | apply bd | apply bdr | (refine bs ?_ (by first | assumption | (simp; done) | (simp; omega))) | (refine bt ?_ (by assumption))))
              go_wp2_with fail
              refine (HRn.out _ (by repeat (with_reducible (first | exact Below.refl _ _ | assumption | apply ba | apply bd | apply bdr | (refine bs ?_ (by first | assumption | (simp; done) | (simp; omega))) | (refine bt ?_ (by assumption)))))).mono ?_; rintro e v5 ⟨rfl, hv5⟩; have Bv5 : Below wB.heap.size wB v5 := by repeat (with_reducible (first | exact Below.refl _ _ | assumption | apply ba | apply bd | apply bdr | (refine bs ?_ (by first | assumption | (simp; done) | (simp; omega))) | (refine bt ?_ (by assumption))))
              go_wp2
              skip
              go_loopw [8] (fun s8 wx => ∃ m : Nat, s8 = .int .i64 m ∧ n < m ∧ m ≤ 301 ∧ Below wB.heap.size wB wx) (fun s8 _ => 301 - (intOf s8).toNat)
              case atStart => exact ⟨n + 1, by go_num, by omega, by omega, by assumption⟩
              case round =>
                obtain ⟨m, rfl, hnm, hm3, hBm⟩ := hrel
                by_cases hml : m ≤ ln
                · have j1 : decide ((m : Int) ≤ (ln : Int)) = true := by first | (simp; done) | (simp; omega)
                  have nj1 : decide (m ≤ ln) = true := by first | (simp; done) | (simp; omega)
                  by_cases hm2 : m ≤ 300
                  · have j2 : decide ((m : Int) ≤ 300) = true := by first | (simp; done) | (simp; omega)
                    have nj2 : decide (m ≤ 300) = true := by first | (simp; done) | (simp; omega)
                    have hnest := (HNE.out n m h1 hnm hml).2
                    have HFm := Lib.hid (HFI.out m (by omega) hml)
                    obtain ⟨fm, hfm⟩ : ∃ fm, fin L6 m = fm := ⟨_, rfl⟩
                    rw [hfm] at HFm hnest
                    rw [hfn] at hnest
                    clear hfm
                    go_wp2_with fail
                    refine (HLE.out _ (by repeat (with_reducible (first | exact Below.refl _ _ | assumption | apply ba | apply bd | apply bdr | (refine bs ?_ (by first | assumption | (simp; done) | (simp; omega))) | (refine bt ?_ (by assumption)))))).mono ?_; rintro e vl ⟨rfl, hvl⟩; have Bvl : Below wB.heap.size wB vl := by repeat (with_reducible (first | exact Below.refl _ _ | assumption | apply ba | apply bd | apply bdr | (refine bs ?_ (by first | assumption | (simp; done) | (simp; omega))) | (refine bt ?_ (by assumption))))
                    go_wp2_with fail
                    refine (HFn.out _ (by repeat (with_reducible (first | exact Below.refl _ _ | assumption | apply ba | apply bd | apply bdr | (refine bs ?_ (by first | assumption | (simp; done) | (simp; omega))) | (refine bt ?_ (by assumption)))))).mono ?_; rintro e vf ⟨rfl, hvf⟩; have Bvf : Below wB.heap.size wB vf := by repeat (with_reducible (first | exact Below.refl _ _ | assumption | apply ba | apply bd | apply bdr | (refine bs ?_ (by first | assumption | (simp; done) | (simp; omega))) | (refine bt ?_ (by assumption))))
                    by_cases hmf : m ≤ fn
                    · have j3 : decide ((m : Int) ≤ (fn : Int)) = true := by first | (simp; done) | (simp; omega)
                      have nj3 : decide (m ≤ fn) = true := by first | (simp; done) | (simp; omega)
                      have hle := hnest hmf
                      have j4 : decide ((fm : Int) > (fn : Int)) = false := by first | (simp; done) | (simp; omega)
                      have nj4 : decide (fn < fm) = false := by first | (simp; done) | (simp; omega)
                      have j5 : decide ((fn : Int) < (fm : Int)) = false := by first | (simp; done) | (simp; omega)
                      have nj5 : decide (fn < fm) = false := by first | (simp; done) | (simp; omega)
                      clear hnest
                      go_wp2_with fail
                      refine (HFm.out _ (by repeat (with_reducible (first | exact Below.refl _ _ | assumption | apply ba | apply bd | apply bdr | (refine bs ?_ (by first | assumption | (simp; done) | (simp; omega))) | (refine bt ?_ (by assumption)))))).mono ?_; rintro e va ⟨rfl, hva⟩; have Bva : Below wB.heap.size wB va := by repeat (with_reducible (first | exact Below.refl _ _ | assumption | apply ba | apply bd | apply bdr | (refine bs ?_ (by first | assumption | (simp; done) | (simp; omega))) | (refine bt ?_ (by assumption))))
                      go_wp2_with fail
                      refine (HFn.out _ (by repeat (with_reducible (first | exact Below.refl _ _ | assumption | apply ba | apply bd | apply bdr | (refine bs ?_ (by first | assumption | (simp; done) | (simp; omega))) | (refine bt ?_ (by assumption)))))).mono ?_; rintro e vb ⟨rfl, hvb⟩; have Bvb : Below wB.heap.size wB vb := by repeat (with_reducible (first | exact Below.refl _ _ | assumption | apply ba | apply bd | apply bdr | (refine bs ?_ (by first | assumption | (simp; done) | (simp; omega))) | (refine bt ?_ (by assumption))))
                      go_wp2
                      skip
                      go_loopw [10] (fun s10 wx => ∃ u : Nat, s10 = .int .i64 u ∧ u ≤ ln ∧ Hid ((m ≤ fn) ↔ (n ≤ u ∧ u ≤ fn)) ∧ Below wB.heap.size wB wx) (fun s10 _ => (intOf s10).toNat)
                      case atStart => exact ⟨m, rfl, by omega, Lib.hid ⟨fun h => ⟨by omega, h⟩, fun h => h.2⟩, by assumption⟩
                      case round =>
                        obtain ⟨u, rfl, hu, hrel, hBu⟩ := hrel
                        by_cases hun : n < u
                        · have k1 : decide ((u : Int) > (n : Int)) = true := by first | (simp; done) | (simp; omega)
                          have nk1 : decide (n < u) = true := by first | (simp; done) | (simp; omega)
                          have k2 : decide ((n : Int) < (u : Int)) = true := by first | (simp; done) | (simp; omega)
                          have nk2 : decide (n < u) = true := by first | (simp; done) | (simp; omega)
                          have HPu := Lib.hid (HPA.out u (by omega) hu)
                          have hnu := (HNE.out n u h1 hun hu).1
                          have hlt := (HU.out u (by omega) hu).1
                          obtain ⟨pu, hpu⟩ : ∃ pu, par L6 u = pu := ⟨_, rfl⟩
                          rw [hpu] at HPu hnu hlt
                          rw [hfn] at hnu
                          have HRL := Lib.hid (hrel.out.trans ((and_congr_right fun h => hnu).trans ⟨fun h => h.2, fun h => ⟨by omega, h⟩⟩))
                          clear hrel hnu hpu
                          go_wp2_with fail
                          refine (HPu.out _ (by repeat (with_reducible (first | exact Below.refl _ _ | assumption | apply ba | apply bd | apply bdr | (refine bs ?_ (by first | assumption | (simp; done) | (simp; omega))) | (refine bt ?_ (by assumption)))))).mono ?_; rintro e vu ⟨rfl, hvu⟩; have Bvu : Below wB.heap.size wB vu := by repeat (with_reducible (first | exact Below.refl _ _ | assumption | apply ba | apply bd | apply bdr | (refine bs ?_ (by first | assumption | (simp; done) | (simp; omega))) | (refine bt ?_ (by assumption))))
                          go_wp2
                          go_roundw
                          case rel => exact ⟨pu, rfl, by omega, HRL, Bvu⟩
                          case measure => simp [intOf]; omega
                        · have k1 : decide ((u : Int) > (n : Int)) = false := by first | (simp; done) | (simp; omega)
                          have nk1 : decide (n < u) = false := by first | (simp; done) | (simp; omega)
                          have k2 : decide ((n : Int) < (u : Int)) = false := by first | (simp; done) | (simp; omega)
                          have nk2 : decide (n < u) = false := by first | (simp; done) | (simp; omega)
                          have hr := hrel.out
                          obtain rfl : u = n := by have := hr.1 hmf; have := HFL.out; omega
                          clear hr hrel hun
                          go_wp2
                          go_roundw
                          case rel => exact ⟨m + 1, by go_num, by omega, by omega, by assumption⟩
                          case measure => simp [intOf]; omega
                    · have j3 : decide ((m : Int) ≤ (fn : Int)) = false := by first | (simp; done) | (simp; omega)
                      have nj3 : decide (m ≤ fn) = false := by first | (simp; done) | (simp; omega)
                      clear hnest
                      go_wp2
                      skip
                      go_loopw [10] (fun s10 wx => ∃ u : Nat, s10 = .int .i64 u ∧ u ≤ ln ∧ Hid ((m ≤ fn) ↔ (n ≤ u ∧ u ≤ fn)) ∧ Below wB.heap.size wB wx) (fun s10 _ => (intOf s10).toNat)
                      case atStart => exact ⟨m, rfl, by omega, Lib.hid ⟨fun h => ⟨by omega, h⟩, fun h => h.2⟩, by assumption⟩
                      case round =>
                        obtain ⟨u, rfl, hu, hrel, hBu⟩ := hrel
                        by_cases hun : n < u
                        · have k1 : decide ((u : Int) > (n : Int)) = true := by first | (simp; done) | (simp; omega)
                          have nk1 : decide (n < u) = true := by first | (simp; done) | (simp; omega)
                          have k2 : decide ((n : Int) < (u : Int)) = true := by first | (simp; done) | (simp; omega)
                          have nk2 : decide (n < u) = true := by first | (simp; done) | (simp; omega)
                          have HPu := Lib.hid (HPA.out u (by omega) hu)
                          have hnu := (HNE.out n u h1 hun hu).1
                          have hlt := (HU.out u (by omega) hu).1
                          obtain ⟨pu, hpu⟩ : ∃ pu, par L6 u = pu := ⟨_, rfl⟩
                          rw [hpu] at HPu hnu hlt
                          rw [hfn] at hnu
                          have HRL := Lib.hid (hrel.out.trans ((and_congr_right fun h => hnu).trans ⟨fun h => h.2, fun h => ⟨by omega, h⟩⟩))
                          clear hrel hnu hpu
                          go_wp2_with fail
                          refine (HPu.out _ (by repeat (with_reducible (first | exact Below.refl _ _ | assumption | apply ba | apply bd | apply bdr | (refine bs ?_ (by first | assumption | (simp; done) | (simp; omega))) | (refine bt ?_ (by assumption)))))).mono ?_; rintro e vu ⟨rfl, hvu⟩; have Bvu : Below wB.heap.size wB vu := by repeat (with_reducible (first | exact Below.refl _ _ | assumption | apply ba | apply bd | apply bdr | (refine bs ?_ (by first | assumption | (simp; done) | (simp; omega))) | (refine bt ?_ (by assumption))))
                          go_wp2
                          go_roundw
                          case rel => exact ⟨pu, rfl, by omega, HRL, Bvu⟩
                          case measure => simp [intOf]; omega
                        · have k1 : decide ((u : Int) > (n : Int)) = false := by first | (simp; done) | (simp; omega)
                          have nk1 : decide (n < u) = false := by first | (simp; done) | (simp; omega)
                          have k2 : decide ((n : Int) < (u : Int)) = false := by first | (simp; done) | (simp; omega)
                          have nk2 : decide (n < u) = false := by first | (simp; done) | (simp; omega)
                          have hr := hrel.out
                          have hne : ¬ u = n := fun h => hmf (hr.2 ⟨by omega, by have := HFL.out; omega⟩)
                          have k3 : decide ((u : Int) = (n : Int)) = false := by simp; omega
                          have nk3 : decide (u = n) = false := by first | (simp; done) | (simp; omega)
                          clear hr hrel hun
                          go_wp2
                          go_roundw
                          case rel => exact ⟨m + 1, by go_num, by omega, by omega, by assumption⟩
                          case measure => simp [intOf]; omega
                  · have j2 : decide ((m : Int) ≤ 300) = false := by first | (simp; done) | (simp; omega)
                    have nj2 : decide (m ≤ 300) = false := by first | (simp; done) | (simp; omega)
                    go_wp2_with fail
                    refine (HLE.out _ (by repeat (with_reducible (first | exact Below.refl _ _ | assumption | apply ba | apply bd | apply bdr | (refine bs ?_ (by first | assumption | (simp; done) | (simp; omega))) | (refine bt ?_ (by assumption)))))).mono ?_; rintro e vl ⟨rfl, hvl⟩; have Bvl : Below wB.heap.size wB vl := by repeat (with_reducible (first | exact Below.refl _ _ | assumption | apply ba | apply bd | apply bdr | (refine bs ?_ (by first | assumption | (simp; done) | (simp; omega))) | (refine bt ?_ (by assumption))))
                    go_wp2
                    go_roundw
                    case rel => exact ⟨n + 1, by go_num, by omega, by omega, by assumption⟩
                    case measure => simp [intOf]; omega
                · have j1 : decide ((m : Int) ≤ (ln : Int)) = false := by first | (simp; done) | (simp; omega)
                  have nj1 : decide (m ≤ ln) = false := by first | (simp; done) | (simp; omega)
                  go_wp2_with fail
                  refine (HLE.out _ (by repeat (with_reducible (first | exact Below.refl _ _ | assumption | apply ba | apply bd | apply bdr | (refine bs ?_ (by first | assumption | (simp; done) | (simp; omega))) | (refine bt ?_ (by assumption)))))).mono ?_; rintro e vl ⟨rfl, hvl⟩; have Bvl : Below wB.heap.size wB vl := by repeat (with_reducible (first | exact Below.refl _ _ | assumption | apply ba | apply bd | apply bdr | (refine bs ?_ (by first | assumption | (simp; done) | (simp; omega))) | (refine bt ?_ (by assumption))))
                  go_wp2
                  go_roundw
                  case rel => exact ⟨n + 1, by go_num, by omega, by omega, by assumption⟩
                  case measure => simp [intOf]; omega
          · have q2 : decide ((n : Int) ≤ 300) = false := by first | (simp; done) | (simp; omega)
            have nq2 : decide (n ≤ 300) = false := by first | (simp; done) | (simp; omega)
            go_wp2_with fail
            refine (HLE.out _ (by repeat (with_reducible (first | exact Below.refl _ _ | assumption | apply ba | apply bd | apply bdr | (refine bs ?_ (by first | assumption | (simp; done) | (simp; omega))) | (refine bt ?_ (by assumption)))))).mono ?_; rintro e vl ⟨rfl, hvl⟩; have Bvl : Below wB.heap.size wB vl := by repeat (with_reducible (first | exact Below.refl _ _ | assumption | apply ba | apply bd | apply bdr | (refine bs ?_ (by first | assumption | (simp; done) | (simp; omega))) | (refine bt ?_ (by assumption))))
            go_wp2
            go_ret
            exact ⟨rfl, bt HB6.out Bvl⟩
        · have q1 : decide ((n : Int) ≤ (ln : Int)) = false := by first | (simp; done) | (simp; omega)
          have nq1 : decide (n ≤ ln) = false := by first | (simp; done) | (simp; omega)
          go_wp2_with fail
          refine (HLE.out _ (by repeat (with_reducible (first | exact Below.refl _ _ | assumption | apply ba | apply bd | apply bdr | (refine bs ?_ (by first | assumption | (simp; done) | (simp; omega))) | (refine bt ?_ (by assumption)))))).mono ?_; rintro e vl ⟨rfl, hvl⟩; have Bvl : Below wB.heap.size wB vl := by repeat (with_reducible (first | exact Below.refl _ _ | assumption | apply ba | apply bd | apply bdr | (refine bs ?_ (by first | assumption | (simp; done) | (simp; omega))) | (refine bt ?_ (by assumption))))
          go_wp2
          go_ret
          exact ⟨rfl, bt HB6.out Bvl⟩
end Go.Proofs.YtcmlfkoeajpliaaDoor
namespace Go.Proofs.YtcmlfkoeajpliaaDoor
open Go.RowKit Go.Lib
set_option maxRecDepth 100000
theorem nests_law (A0 : Option Addr) (cap0 : Nat) (ts : List Tr) (w : World) (hT : tabs w) (hR : RdP (fun b => b < w.heap.size) w 5 A0 ts.length (rowT ts)) (hI : ∀ t ∈ ts, t.In (fun b => b < w.heap.size) w) (hB : ∀ t ∈ ts, t.pl.lens) :
    Calls Tryd.prog 5 #[.slice A0 ts.length cap0] w fun e w' => e = .returned (.bool true) ∧ Below w.heap.size w w' := by
  have HW : Hid (∀ w1 : World, Below w.heap.size w w1 → Calls Tryd.prog 12 #[] w1 fun e w' => e = .returned (.bool true) ∧ Below w1.heap.size w1 w') :=
    Lib.hid fun w1 h1 => awake5 w1 (Utf8Tabs_below hT h1)
  by_cases h : ts.length ≤ 10
  · exact nests_few A0 cap0 ts.length ts w h hT (Lib.hid ⟨hR, rfl, hI, hB⟩) HW
  · exact nests_many A0 cap0 ts.length w h HW
end Go.Proofs.YtcmlfkoeajpliaaDoor
