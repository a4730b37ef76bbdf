/- Package node builds a tree in a store. No condition beyond what the theorems state. -/
import Derived.Test.YtcmlfkoeajpliaaDoorStore
import Derived.Test.YtcmlfkoeajpliaaDoorNdRight
namespace Go.Proofs.YtcmlfkoeajpliaaDoor
open Go.RowKit Go.Lib
set_option maxRecDepth 100000
set_option maxHeartbeats 8000000
theorem count_any : ∀ (t : Tr) (P : Nat → Prop) (w : World), t.In P w → (∀ b, P b → b < w.heap.size) → t.pl.fit →
    Calls Tryd.prog 52 #[t.v] w fun e w' => e = .returned (.int .i64 (t.pl.size : Int)) ∧ Below w.heap.size w w' := by
  intro t
  induction t using Tr.ind with
  | h k n v A ac ps K kc ks ih =>
    intro P w hin hP hb
    have hF := fit_fields hb
    have hkid : ∀ t ∈ ks, t.pl.fit := fit_kid hb
    have hps : ps.length ≤ 1048576 := hF.2.2.1
    have hks : ks.length ≤ 1048576 := hF.2.2.2
    have hsz := hb.1
    rw [Tr.In] at hin
    obtain ⟨_, hK, hL⟩ := hin
    have HK := Lib.hid hK; have HL := Lib.hid hL; have HP := Lib.hid hP; have IH := Lib.hid ih; have HB := Lib.hid hkid
    rw [Tr.pl, PT.size] at hsz ⊢
    obtain ⟨res, hres⟩ : ∃ res, 1 + ps.length + sizeL (plL ks) = res := ⟨_, rfl⟩
    rw [hres] at hsz ⊢
    have HR := Lib.hid hres
    obtain ⟨np, hnp⟩ : ∃ np, ps.length = np := ⟨_, rfl⟩
    obtain ⟨nk, hnk⟩ : ∃ nk, ks.length = nk := ⟨_, rfl⟩
    have HNK := Lib.hid hnk
    have HNP := Lib.hid hnp
    rw [hnp] at hps
    rw [hnk] at hks
    have hres1 : res ≤ 1048576 := hsz
    show Calls Tryd.prog 52 #[.agg #[.int .i64 k, .string (ba' n), .string (ba' v), .slice A ps.length ac, .slice K ks.length kc]] w _
    rw [hnp, hnk]
    clear hK hL hP ih hkid hres hnp hnk hF hb hsz
    go_enter Tryd.func52, Tryd.ntmps52
    go_wp2
    go_loopw [3, 13] (fun s3 s13 wx => ∃ (i l : Nat), s13 = .int .i64 i ∧ s3 = .int .i64 (l : Int) ∧ i ≤ nk ∧ Hid (l + sizeL ((plL ks).drop i) = res) ∧ Below w.heap.size w wx) (fun _ s13 _ => nk - (intOf s13).toNat)
    case atStart =>
      exact ⟨0, 1 + np, rfl, by go_num, by omega, Lib.hid (by rw [← HR.out, ← HNP.out]; rfl), ba (Below.refl _ _)⟩
    case round =>
      obtain ⟨i, l, rfl, rfl, hi, hrel, hBW⟩ := hrel
      by_cases hlt : i < nk
      · have g0 : decide ((i : Int) < (nk : Int)) = true := by first | (simp; done) | (simp; omega)
        have hil : i < ks.length := by rw [HNK.out]; exact hlt
        obtain ⟨t, ht⟩ : ∃ t, ks[i]? = some t := ⟨_, List.getElem?_eq_getElem hil⟩
        have htm := List.mem_of_getElem? ht
        have hin' := (inL_iff.1 HL.out t htm).below HP.out hBW
        have hc := fun P w => IH.out t htm P w
        have hbk := HB.out t htm
        have hst : l + sizeL ((plL ks).drop i) = (l + t.pl.size) + sizeL ((plL ks).drop (i + 1)) := by rw [drop_at (plL_at ht), sizeL]; omega
        obtain ⟨k', n', v', A', ac', ps', K', kc', ks'⟩ := t
        have hka := HK.out.below HP.out hBW
        rw [HNK.out] at hka
        obtain ⟨ad, rfl, hPad, d0, d1, d2, d3, d4⟩ := kid_at hka ht hlt
        have hb0 : (ad.add (i * 5)).block < wr.heap.size := by rw [block_of_add]; exact Nat.lt_of_lt_of_le (HP.out _ hPad) hBW.size
        have HC := Lib.hid (fun w1 hb1 => hc P w1 (hin'.below (fun b hb => Nat.lt_of_lt_of_le (HP.out b hb) hBW.size) hb1) (fun b hb => Nat.lt_of_lt_of_le (Nat.lt_of_lt_of_le (HP.out b hb) hBW.size) (Below.size hb1)) hbk)
        obtain ⟨l2, hl2⟩ : ∃ l2, (Tr.mk k' n' v' A' ac' ps' K' kc' ks').pl.size = l2 := ⟨_, rfl⟩
        rw [hl2] at HC hst
        have HS := Lib.hid (hst.symm.trans hrel.out)
        have hll : l + l2 ≤ 1048576 := by have := HS.out; omega
        obtain ⟨np', hnp'⟩ : ∃ q, ps'.length = q := ⟨_, rfl⟩
        obtain ⟨nk', hnk'⟩ : ∃ q, ks'.length = q := ⟨_, rfl⟩
        simp only [Tr.v] at HC
        rw [hnp', hnk'] at HC
        rw [hnp'] at d3
        rw [hnk'] at d4
        clear hst hrel hc hin' hka hl2 ht htm hil hnp' hnk'
        go_wp2_with (go_at_call 52; go_must (refine (HC.out _ (by repeat (with_reducible (first | exact Below.refl _ _ | assumption | apply ba | apply bd | apply bdr | (refine bs ?_ (by first | assumption | (simp; done) | (simp; omega))) | (refine bt ?_ (by assumption)))))).mono ?_); rintro e w1 ⟨rfl, hb1⟩)
        go_roundw
        case rel => exact ⟨i + 1, l + l2, by go_num, by go_num, by omega, HS, by repeat (with_reducible (first | exact Below.refl _ _ | assumption | apply ba | apply bd | apply bdr | (refine bs ?_ (by first | assumption | (simp; done) | (simp; omega))) | (refine bt ?_ (by assumption))))⟩
        case measure => simp [intOf]; omega
      · obtain rfl : i = nk := by omega
        have g0 : decide (((i : Nat) : Int) < ((i : Nat) : Int)) = false := by simp
        have hr : l = res := by
          have := hrel.out
          rw [List.drop_eq_nil_of_le (by rw [plL_len, HNK.out]; exact Nat.le_refl _), sizeL] at this
          exact this
        subst hr
        go_wp2
        go_ret
        exact ⟨rfl, by repeat (with_reducible (first | exact Below.refl _ _ | assumption | apply ba | apply bd | apply bdr | (refine bs ?_ (by first | assumption | (simp; done) | (simp; omega))) | (refine bt ?_ (by assumption))))⟩
theorem right_one (t : Tr) (P : Nat → Prop) (w : World) (g cap : Nat) (hT : tabs w) (hin : t.In P w) (hP : ∀ b, P b → b < w.heap.size) (hb : t.pl.fit) (hg : g < w.heap.size) (hc : ∀ j u, t.cells[j]? = some u → w.cell? ⟨g, j, none⟩ = some u) :
    Calls Tryd.prog 16 #[.slice (some ⟨g, 0, none⟩) 1 cap] w fun e w' => e = .returned (.bool (t.pl.right 0)) ∧ Below w.heap.size w w' := by
  have HC := Lib.hid (fun (w1 : World) (hb1 : Below w.heap.size w w1) => ndRight_any t P w1 0 (Utf8Tabs_below hT hb1) (hin.below hP hb1) (fun b h => Nat.lt_of_lt_of_le (hP b h) hb1.size) hb (by decide))
  obtain ⟨r, hr⟩ : ∃ r, t.pl.right 0 = r := ⟨_, rfl⟩
  rw [hr] at HC ⊢
  obtain ⟨k, n, v, A, ac, ps, K, kc, ks⟩ := t
  simp only [Tr.v] at HC
  have h0 := hc 0 _ rfl; have h1 := hc 1 _ rfl; have h2 := hc 2 _ rfl; have h3 := hc 3 _ rfl; have h4 := hc 4 _ rfl
  obtain ⟨np, hnp⟩ : ∃ q, ps.length = q := ⟨_, rfl⟩
  obtain ⟨nk, hnk⟩ : ∃ q, ks.length = q := ⟨_, rfl⟩
  rw [hnp, hnk] at HC
  rw [hnp] at h3
  rw [hnk] at h4
  clear hc hin hb hr hT hnp hnk hP
  go_enter Tryd.func16, Tryd.ntmps16
  go_wp2
  go_loopw [7] (fun s7 wx => ∃ i : Nat, s7 = .int .i64 i ∧ i ≤ 1 ∧ (i = 1 → r = true) ∧ Below w.heap.size w wx) (fun s7 _ => 1 - (intOf s7).toNat)
  case atStart => exact ⟨0, rfl, by omega, fun h => absurd h (by decide), by repeat (with_reducible (first | exact Below.refl _ _ | assumption | apply ba | apply bd | apply bdr | (refine bs ?_ (by first | assumption | (simp; done) | (simp; omega))) | (refine bt ?_ (by assumption))))⟩
  case round =>
    obtain ⟨i, rfl, hi, e1, hB⟩ := hrel
    have d0 := (hB.cell (p := ⟨g, 0, none⟩) hg).trans h0
    have d1 := (hB.cell (p := ⟨g, 1, none⟩) hg).trans h1
    have d2 := (hB.cell (p := ⟨g, 2, none⟩) hg).trans h2
    have d3 := (hB.cell (p := ⟨g, 3, none⟩) hg).trans h3
    have d4 := (hB.cell (p := ⟨g, 4, none⟩) hg).trans h4
    have hgr : g < wr.heap.size := Nat.lt_of_lt_of_le hg hB.size
    clear h0 h1 h2 h3 h4
    rcases (by omega : i = 0 ∨ i = 1) with rfl | rfl
    · clear e1
      cases r with
      | false =>
        go_wp2_with (go_at_call 51; go_must (refine (HC.out _ (by repeat (with_reducible (first | exact Below.refl _ _ | assumption | apply ba | apply bd | apply bdr | (refine bs ?_ (by first | assumption | (simp; done) | (simp; omega))) | (refine bt ?_ (by assumption)))))).mono ?_); rintro e w1 ⟨rfl, hb1⟩)
        go_ret
        exact ⟨rfl, by repeat (with_reducible (first | exact Below.refl _ _ | assumption | apply ba | apply bd | apply bdr | (refine bs ?_ (by first | assumption | (simp; done) | (simp; omega))) | (refine bt ?_ (by assumption))))⟩
      | true =>
        go_wp2_with (go_at_call 51; go_must (refine (HC.out _ (by repeat (with_reducible (first | exact Below.refl _ _ | assumption | apply ba | apply bd | apply bdr | (refine bs ?_ (by first | assumption | (simp; done) | (simp; omega))) | (refine bt ?_ (by assumption)))))).mono ?_); rintro e w1 ⟨rfl, hb1⟩)
        go_roundw
        case rel => exact ⟨1, rfl, by omega, by simp, by repeat (with_reducible (first | exact Below.refl _ _ | assumption | apply ba | apply bd | apply bdr | (refine bs ?_ (by first | assumption | (simp; done) | (simp; omega))) | (refine bt ?_ (by assumption))))⟩
        case measure => simp [intOf]
    · obtain rfl := e1 rfl
      clear e1
      go_wp2
      go_ret
      exact ⟨rfl, by repeat (with_reducible (first | exact Below.refl _ _ | assumption | apply ba | apply bd | apply bdr | (refine bs ?_ (by first | assumption | (simp; done) | (simp; omega))) | (refine bt ?_ (by assumption))))⟩
theorem room_any (sb lim : Nat) (A : Option Addr) (c : Nat) (L : List En) (w : World) (hS : StoreAt w sb lim A c L) (hl : lim ≤ 1048576) (hL : L.length ≤ 1048576) : Calls Tryd.prog 23 #[.pointer (some ⟨sb, 0, none⟩)] w fun e w' => e = .returned (.int .i64 ((lim : Int) - (L.length : Int))) ∧ Below w.heap.size w w' := by
  have HE := Lib.hid (fun (w1 : World) (hb1 : Below w.heap.size w w1) => len_same sb lim A c L w1 (hS.below hb1))
  obtain ⟨h0, h1, h2, h3, h4⟩ := hS
  obtain ⟨n, hn⟩ : ∃ n, L.length = n := ⟨_, rfl⟩
  rw [hn] at h2 hL HE ⊢
  have hw : IntKind.i64.wrap ((lim : Int) - (n : Int)) = (lim : Int) - (n : Int) := by rw [IntKind.wrap_i64]; omega
  clear hn h4
  go_enter Tryd.func23, Tryd.ntmps23
  go_wp2
  go_region_with (go_at_call 22; refine (HE.out _ (by repeat (with_reducible (first | exact Below.refl _ _ | assumption | apply ba | apply bd | apply bdr | (refine bs ?_ (by first | assumption | (simp; done) | (simp; omega))) | (refine bt ?_ (by assumption)))))).mono ?_; rintro e w9 ⟨rfl, rfl⟩)
  all_goals go_wp2
  all_goals go_ret
  all_goals exact ⟨by first | rfl | (simp [hw]; done), by repeat (with_reducible (first | exact Below.refl _ _ | assumption | apply ba | apply bd | apply bdr | (refine bs ?_ (by first | assumption | (simp; done) | (simp; omega))) | (refine bt ?_ (by assumption))))⟩
theorem new_any (lim : Nat) (w : World) (h1 : 1 ≤ lim) (h2 : lim ≤ 1048576) : Calls Tryd.prog 13 #[.int .i64 (lim : Int)] w fun e w' => e = .returned (.tuple #[.pointer (some ⟨w.heap.size, 0, none⟩), .int .i64 0]) ∧ w' = w.alloc (.cells #[.int .i64 (lim : Int), .slice none 0 0] 79) := by
  have g1 : decide ((lim : Int) < 1) = false := by simp; omega
  have g2 : decide ((lim : Int) > 1048576) = false := by simp; omega
  have g3 : decide (1048576 < (lim : Int)) = false := by simp; omega
  go_enter Tryd.func13, Tryd.ntmps13
  go_wp2
  exact bodyPost_ret (v := .tuple #[.pointer (some ⟨w.heap.size, 0, none⟩), .int .i64 0]) (by simp [results, Tryd.results13, go_sem]) rfl ⟨rfl, rfl⟩
theorem new_store (lim : Nat) (w : World) : StoreAt (w.alloc (.cells #[.int .i64 (lim : Int), .slice none 0 0] 79)) w.heap.size lim none 0 [] :=
  ⟨by simp, by simp, by simp, by simp, World.ownsRow_nil _ _ _ _⟩
end Go.Proofs.YtcmlfkoeajpliaaDoor
namespace Go.Proofs.YtcmlfkoeajpliaaDoor
open Go.RowKit Go.Lib
set_option maxRecDepth 100000
set_option maxHeartbeats 8000000
theorem build_wrong (t : Tr) (P : Nat → Prop) (w : World) (sb lim : Nat) (A : Option Addr) (c : Nat) (L : List En) (hT : tabs w) (hS : StoreAt w sb lim A c L) (hin : t.In P w) (hP : Apart P sb A w) (hb : t.pl.fit) (hl : lim ≤ 1048576) (hL : L.length ≤ lim) (hr : t.pl.right 0 = false) :
    Calls Tryd.prog 18 #[.pointer (some ⟨sb, 0, none⟩), t.v] w fun e w' => e = .returned (.tuple #[.int .i64 0, .int .i64 2]) ∧ Below w.heap.size w w' := by
  have hPl : ∀ b, P b → b < w.heap.size := fun b h => (hP b h).1
  have hsb := hb.1
  have HR := Lib.hid (fun (w1 : World) (g cap : Nat) (hb1 : Below w.heap.size w w1) (hg : g < w1.heap.size) (hc : ∀ j u, t.cells[j]? = some u → w1.cell? ⟨g, j, none⟩ = some u) => right_one t P w1 g cap (Utf8Tabs_below hT hb1) (hin.below hPl hb1) (fun b h => Nat.lt_of_lt_of_le (hPl b h) hb1.size) hb hg hc)
  have HCN := Lib.hid (fun (w1 : World) (hb1 : Below w.heap.size w w1) => count_any t P w1 (hin.below hPl hb1) (fun b h => Nat.lt_of_lt_of_le (hPl b h) hb1.size) hb)
  have HRM := Lib.hid (fun (w1 : World) (hb1 : Below w.heap.size w w1) => room_any sb lim A c L w1 (hS.below hb1) hl (by omega))
  have HLY := Lib.hid (fun (hsz : L.length + t.pl.size ≤ 1048576) (w1 : World) (hb1 : Below w.heap.size w w1) => lay_all t P w1 sb lim A c L 0 (hS.below hb1) (hin.below hPl hb1) (hP.beside (Beside.of_below hb1)) hb hsz)
  rw [hr] at HR
  obtain ⟨sz, hsz⟩ : ∃ sz, t.pl.size = sz := ⟨_, rfl⟩
  obtain ⟨ln, hln⟩ : ∃ ln, L.length = ln := ⟨_, rfl⟩
  have HPL := Lib.hid (rfl : t.pl = t.pl)
  rw [hsz] at HCN HLY hsb
  rw [hln] at HRM HLY hL
  obtain ⟨k, n, v, A0, ac, ps, K, kc, ks⟩ := t
  have HCE : Hid (∀ (w1 : World) (g : Nat), g = w1.heap.size → ∀ (j : Nat) (u : Value), (Tr.mk k n v A0 ac ps K kc ks).cells[j]? = some u → (w1.alloc (.cells #[.int .i64 k, .string (ba' n), .string (ba' v), .slice A0 ps.length ac, .slice K ks.length kc] 33)).cell? ⟨g, j, none⟩ = some u) := Lib.hid fun w1 g hg j u hu => by
    subst hg
    have := five_new w1 (.int .i64 k) (.string (ba' n)) (.string (ba' v)) (.slice A0 ps.length ac) (.slice K ks.length kc) 33 j u hu
    have hj : ((⟨w1.heap.size, 0, none⟩ : Addr).add j) = ⟨w1.heap.size, j, none⟩ := by unfold Addr.add; split <;> simp_all
    rwa [hj] at this
  simp only [Tr.v] at HCN HLY ⊢
  obtain ⟨np, hnp⟩ : ∃ q, ps.length = q := ⟨_, rfl⟩
  obtain ⟨nk, hnk⟩ : ∃ q, ks.length = q := ⟨_, rfl⟩
  have HNP := Lib.hid hnp; have HNK := Lib.hid hnk
  rw [hnp, hnk] at HCN HCE HLY ⊢
  have HLN := Lib.hid hln; have HSZ := Lib.hid hsz
  have HS := Lib.hid hS
  clear hT hS hin hP hPl hb hsz hln hnp hnk
  go_enter Tryd.func18, Tryd.ntmps18
  go_wp2_with (first
    | (go_at_call 16; go_must (refine (HR.out _ _ _ (by repeat (with_reducible (first | exact Below.refl _ _ | assumption | apply ba | apply bd | apply bdr | (refine bs ?_ (by first | assumption | (simp; done) | (simp; omega))) | (refine bt ?_ (by assumption))))) (by simp) (HCE.out _ _ (by simp))).mono ?_); rintro e w1 ⟨rfl, hb1⟩; have hc1 := fun o => (bcell hb1).1 w.heap.size o (by first | assumption | (simp; done) | (simp; omega)); have z1 := zz hb1 (by first | assumption | (simp; done) | (simp; omega) : w.heap.size < _); have B1 : Below w.heap.size w w1 := by repeat (with_reducible (first | exact Below.refl _ _ | assumption | apply ba | apply bd | apply bdr | (refine bs ?_ (by first | assumption | (simp; done) | (simp; omega))) | (refine bt ?_ (by assumption))))))
  exact bodyPost_ret (v := .tuple #[.int .i64 0, .int .i64 2]) (by simp [results, Tryd.results18, go_sem]) rfl ⟨rfl, by repeat (with_reducible (first | exact Below.refl _ _ | assumption | apply ba | apply bd | apply bdr | (refine bs ?_ (by first | assumption | (simp; done) | (simp; omega))) | (refine bt ?_ (by assumption))))⟩
theorem build_nodes (t : Tr) (P : Nat → Prop) (w : World) (sb lim : Nat) (A : Option Addr) (c : Nat) (L : List En) (hT : tabs w) (hS : StoreAt w sb lim A c L) (hin : t.In P w) (hP : Apart P sb A w) (hb : t.pl.fit) (hl : lim ≤ 1048576) (hL : L.length ≤ lim) (hr : t.pl.right 0 = true) (hf : lim < L.length + t.pl.size) :
    Calls Tryd.prog 18 #[.pointer (some ⟨sb, 0, none⟩), t.v] w fun e w' => e = .returned (.tuple #[.int .i64 0, .int .i64 20]) ∧ Below w.heap.size w w' := by
  have hPl : ∀ b, P b → b < w.heap.size := fun b h => (hP b h).1
  have hsb := hb.1
  have HR := Lib.hid (fun (w1 : World) (g cap : Nat) (hb1 : Below w.heap.size w w1) (hg : g < w1.heap.size) (hc : ∀ j u, t.cells[j]? = some u → w1.cell? ⟨g, j, none⟩ = some u) => right_one t P w1 g cap (Utf8Tabs_below hT hb1) (hin.below hPl hb1) (fun b h => Nat.lt_of_lt_of_le (hPl b h) hb1.size) hb hg hc)
  have HCN := Lib.hid (fun (w1 : World) (hb1 : Below w.heap.size w w1) => count_any t P w1 (hin.below hPl hb1) (fun b h => Nat.lt_of_lt_of_le (hPl b h) hb1.size) hb)
  have HRM := Lib.hid (fun (w1 : World) (hb1 : Below w.heap.size w w1) => room_any sb lim A c L w1 (hS.below hb1) hl (by omega))
  have HLY := Lib.hid (fun (hsz : L.length + t.pl.size ≤ 1048576) (w1 : World) (hb1 : Below w.heap.size w w1) => lay_all t P w1 sb lim A c L 0 (hS.below hb1) (hin.below hPl hb1) (hP.beside (Beside.of_below hb1)) hb hsz)
  rw [hr] at HR
  obtain ⟨sz, hsz⟩ : ∃ sz, t.pl.size = sz := ⟨_, rfl⟩
  obtain ⟨ln, hln⟩ : ∃ ln, L.length = ln := ⟨_, rfl⟩
  have HPL := Lib.hid (rfl : t.pl = t.pl)
  rw [hsz] at HCN HLY hsb hf
  rw [hln] at HRM HLY hL hf
  obtain ⟨k, n, v, A0, ac, ps, K, kc, ks⟩ := t
  have HCE : Hid (∀ (w1 : World) (g : Nat), g = w1.heap.size → ∀ (j : Nat) (u : Value), (Tr.mk k n v A0 ac ps K kc ks).cells[j]? = some u → (w1.alloc (.cells #[.int .i64 k, .string (ba' n), .string (ba' v), .slice A0 ps.length ac, .slice K ks.length kc] 33)).cell? ⟨g, j, none⟩ = some u) := Lib.hid fun w1 g hg j u hu => by
    subst hg
    have := five_new w1 (.int .i64 k) (.string (ba' n)) (.string (ba' v)) (.slice A0 ps.length ac) (.slice K ks.length kc) 33 j u hu
    have hj : ((⟨w1.heap.size, 0, none⟩ : Addr).add j) = ⟨w1.heap.size, j, none⟩ := by unfold Addr.add; split <;> simp_all
    rwa [hj] at this
  simp only [Tr.v] at HCN HLY ⊢
  obtain ⟨np, hnp⟩ : ∃ q, ps.length = q := ⟨_, rfl⟩
  obtain ⟨nk, hnk⟩ : ∃ q, ks.length = q := ⟨_, rfl⟩
  have HNP := Lib.hid hnp; have HNK := Lib.hid hnk
  rw [hnp, hnk] at HCN HCE HLY ⊢
  have HLN := Lib.hid hln; have HSZ := Lib.hid hsz
  have HS := Lib.hid hS
  clear hT hS hin hP hPl hb hsz hln hnp hnk
  have g1 : decide ((sz : Int) > (lim : Int) - (ln : Int)) = true := by simp; omega
  have g2 : decide ((lim : Int) - (ln : Int) < (sz : Int)) = true := by simp; omega
  go_enter Tryd.func18, Tryd.ntmps18
  go_wp2_with (first
    | (go_at_call 16; go_must (refine (HR.out _ _ _ (by repeat (with_reducible (first | exact Below.refl _ _ | assumption | apply ba | apply bd | apply bdr | (refine bs ?_ (by first | assumption | (simp; done) | (simp; omega))) | (refine bt ?_ (by assumption))))) (by simp) (HCE.out _ _ (by simp))).mono ?_); rintro e w1 ⟨rfl, hb1⟩; have hc1 := fun o => (bcell hb1).1 w.heap.size o (by first | assumption | (simp; done) | (simp; omega)); have z1 := zz hb1 (by first | assumption | (simp; done) | (simp; omega) : w.heap.size < _); have B1 : Below w.heap.size w w1 := by repeat (with_reducible (first | exact Below.refl _ _ | assumption | apply ba | apply bd | apply bdr | (refine bs ?_ (by first | assumption | (simp; done) | (simp; omega))) | (refine bt ?_ (by assumption)))))
    | (go_at_call 52; go_must (refine (HCN.out _ (by repeat (with_reducible (first | exact Below.refl _ _ | assumption | apply ba | apply bd | apply bdr | (refine bs ?_ (by first | assumption | (simp; done) | (simp; omega))) | (refine bt ?_ (by assumption)))))).mono ?_); rintro e w2 ⟨rfl, hb2⟩; have hc2 := fun o => (bcell hb2).1 w.heap.size o (by first | assumption | (simp; done) | (simp; omega)); have z2 := zz hb2 (by first | assumption | (simp; done) | (simp; omega) : w.heap.size < _); have B2 : Below w.heap.size w w2 := by repeat (with_reducible (first | exact Below.refl _ _ | assumption | apply ba | apply bd | apply bdr | (refine bs ?_ (by first | assumption | (simp; done) | (simp; omega))) | (refine bt ?_ (by assumption)))))
    | (go_at_call 23; go_must (refine (HRM.out _ (by repeat (with_reducible (first | exact Below.refl _ _ | assumption | apply ba | apply bd | apply bdr | (refine bs ?_ (by first | assumption | (simp; done) | (simp; omega))) | (refine bt ?_ (by assumption)))))).mono ?_); rintro e w3 ⟨rfl, hb3⟩; have hc3 := fun o => (bcell hb3).1 w.heap.size o (by first | assumption | (simp; done) | (simp; omega)); have z3 := zz hb3 (by first | assumption | (simp; done) | (simp; omega) : w.heap.size < _); have B3 : Below w.heap.size w w3 := by repeat (with_reducible (first | exact Below.refl _ _ | assumption | apply ba | apply bd | apply bdr | (refine bs ?_ (by first | assumption | (simp; done) | (simp; omega))) | (refine bt ?_ (by assumption))))))
  exact bodyPost_ret (v := .tuple #[.int .i64 0, .int .i64 20]) (by simp [results, Tryd.results18, go_sem]) rfl ⟨rfl, by repeat (with_reducible (first | exact Below.refl _ _ | assumption | apply ba | apply bd | apply bdr | (refine bs ?_ (by first | assumption | (simp; done) | (simp; omega))) | (refine bt ?_ (by assumption))))⟩
theorem build_ok (t : Tr) (P : Nat → Prop) (w : World) (sb lim : Nat) (A : Option Addr) (c : Nat) (L : List En) (hT : tabs w) (hS : StoreAt w sb lim A c L) (hin : t.In P w) (hP : Apart P sb A w) (hb : t.pl.fit) (hl : lim ≤ 1048576) (_hL : L.length ≤ lim) (hr : t.pl.right 0 = true) (hf : L.length + t.pl.size ≤ lim) :
    Calls Tryd.prog 18 #[.pointer (some ⟨sb, 0, none⟩), t.v] w fun e w' => e = .returned (.tuple #[.int .i64 ((L.length + 1 : Nat) : Int), .int .i64 0]) ∧ ∃ A' c', StoreAt w' sb lim A' c' (L ++ t.pl.lay L.length 0) ∧ Beside sb A w A' w' := by
  have hPl : ∀ b, P b → b < w.heap.size := fun b h => (hP b h).1
  have hsb := hb.1
  have HR := Lib.hid (fun (w1 : World) (g cap : Nat) (hb1 : Below w.heap.size w w1) (hg : g < w1.heap.size) (hc : ∀ j u, t.cells[j]? = some u → w1.cell? ⟨g, j, none⟩ = some u) => right_one t P w1 g cap (Utf8Tabs_below hT hb1) (hin.below hPl hb1) (fun b h => Nat.lt_of_lt_of_le (hPl b h) hb1.size) hb hg hc)
  have HCN := Lib.hid (fun (w1 : World) (hb1 : Below w.heap.size w w1) => count_any t P w1 (hin.below hPl hb1) (fun b h => Nat.lt_of_lt_of_le (hPl b h) hb1.size) hb)
  have HRM := Lib.hid (fun (w1 : World) (hb1 : Below w.heap.size w w1) => room_any sb lim A c L w1 (hS.below hb1) hl (by omega))
  have HLY := Lib.hid (fun (hsz : L.length + t.pl.size ≤ 1048576) (w1 : World) (hb1 : Below w.heap.size w w1) => lay_all t P w1 sb lim A c L 0 (hS.below hb1) (hin.below hPl hb1) (hP.beside (Beside.of_below hb1)) hb hsz)
  rw [hr] at HR
  obtain ⟨sz, hsz⟩ : ∃ sz, t.pl.size = sz := ⟨_, rfl⟩
  obtain ⟨ln, hln⟩ : ∃ ln, L.length = ln := ⟨_, rfl⟩
  have HPL := Lib.hid (rfl : t.pl = t.pl)
  rw [hsz] at HCN HLY hsb hf
  rw [hln] at HRM HLY hf ⊢
  obtain ⟨k, n, v, A0, ac, ps, K, kc, ks⟩ := t
  have HCE : Hid (∀ (w1 : World) (g : Nat), g = w1.heap.size → ∀ (j : Nat) (u : Value), (Tr.mk k n v A0 ac ps K kc ks).cells[j]? = some u → (w1.alloc (.cells #[.int .i64 k, .string (ba' n), .string (ba' v), .slice A0 ps.length ac, .slice K ks.length kc] 33)).cell? ⟨g, j, none⟩ = some u) := Lib.hid fun w1 g hg j u hu => by
    subst hg
    have := five_new w1 (.int .i64 k) (.string (ba' n)) (.string (ba' v)) (.slice A0 ps.length ac) (.slice K ks.length kc) 33 j u hu
    have hj : ((⟨w1.heap.size, 0, none⟩ : Addr).add j) = ⟨w1.heap.size, j, none⟩ := by unfold Addr.add; split <;> simp_all
    rwa [hj] at this
  simp only [Tr.v] at HCN HLY ⊢
  obtain ⟨np, hnp⟩ : ∃ q, ps.length = q := ⟨_, rfl⟩
  obtain ⟨nk, hnk⟩ : ∃ q, ks.length = q := ⟨_, rfl⟩
  have HNP := Lib.hid hnp; have HNK := Lib.hid hnk
  rw [hnp, hnk] at HCN HCE HLY ⊢
  have HLN := Lib.hid hln; have HSZ := Lib.hid hsz
  have HS := Lib.hid hS
  clear hT hS hin hP hPl hb hsz hln hnp hnk
  have hfit2 : ln + sz ≤ 1048576 := by omega
  have g1 : decide ((sz : Int) > (lim : Int) - (ln : Int)) = false := by simp; omega
  have g2 : decide ((lim : Int) - (ln : Int) < (sz : Int)) = false := by simp; omega
  go_enter Tryd.func18, Tryd.ntmps18
  go_wp2_with (first
    | (go_at_call 16; go_must (refine (HR.out _ _ _ (by repeat (with_reducible (first | exact Below.refl _ _ | assumption | apply ba | apply bd | apply bdr | (refine bs ?_ (by first | assumption | (simp; done) | (simp; omega))) | (refine bt ?_ (by assumption))))) (by simp) (HCE.out _ _ (by simp))).mono ?_); rintro e w1 ⟨rfl, hb1⟩; have hc1 := fun o => (bcell hb1).1 w.heap.size o (by first | assumption | (simp; done) | (simp; omega)); have z1 := zz hb1 (by first | assumption | (simp; done) | (simp; omega) : w.heap.size < _); have B1 : Below w.heap.size w w1 := by repeat (with_reducible (first | exact Below.refl _ _ | assumption | apply ba | apply bd | apply bdr | (refine bs ?_ (by first | assumption | (simp; done) | (simp; omega))) | (refine bt ?_ (by assumption)))))
    | (go_at_call 52; go_must (refine (HCN.out _ (by repeat (with_reducible (first | exact Below.refl _ _ | assumption | apply ba | apply bd | apply bdr | (refine bs ?_ (by first | assumption | (simp; done) | (simp; omega))) | (refine bt ?_ (by assumption)))))).mono ?_); rintro e w2 ⟨rfl, hb2⟩; have hc2 := fun o => (bcell hb2).1 w.heap.size o (by first | assumption | (simp; done) | (simp; omega)); have z2 := zz hb2 (by first | assumption | (simp; done) | (simp; omega) : w.heap.size < _); have B2 : Below w.heap.size w w2 := by repeat (with_reducible (first | exact Below.refl _ _ | assumption | apply ba | apply bd | apply bdr | (refine bs ?_ (by first | assumption | (simp; done) | (simp; omega))) | (refine bt ?_ (by assumption)))))
    | (go_at_call 23; go_must (refine (HRM.out _ (by repeat (with_reducible (first | exact Below.refl _ _ | assumption | apply ba | apply bd | apply bdr | (refine bs ?_ (by first | assumption | (simp; done) | (simp; omega))) | (refine bt ?_ (by assumption)))))).mono ?_); rintro e w3 ⟨rfl, hb3⟩; have hc3 := fun o => (bcell hb3).1 w.heap.size o (by first | assumption | (simp; done) | (simp; omega)); have z3 := zz hb3 (by first | assumption | (simp; done) | (simp; omega) : w.heap.size < _); have B3 : Below w.heap.size w w3 := by repeat (with_reducible (first | exact Below.refl _ _ | assumption | apply ba | apply bd | apply bdr | (refine bs ?_ (by first | assumption | (simp; done) | (simp; omega))) | (refine bt ?_ (by assumption)))))
    | (go_at_call 53; go_must (refine (HLY.out hfit2 _ (by repeat (with_reducible (first | exact Below.refl _ _ | assumption | apply ba | apply bd | apply bdr | (refine bs ?_ (by first | assumption | (simp; done) | (simp; omega))) | (refine bt ?_ (by assumption)))))).mono ?_); rintro e w4 ⟨rfl, A4, c4, hS4, hB4⟩; have HS4 := Lib.hid hS4; have HB4 := Lib.hid hB4; clear hS4 hB4))
  exact bodyPost_ret (v := .tuple #[.int .i64 ((ln + 1 : Nat) : Int), .int .i64 0]) (by simp [results, Tryd.results18, go_sem]) rfl ⟨rfl, A4, c4, HS4.out, (Beside.of_below B3).trans HB4.out⟩
end Go.Proofs.YtcmlfkoeajpliaaDoor
