/- The reference compares, adds and takes rows of digits. No condition beyond what the theorems state. -/
import Derived.Test.YtmggffhecopgiaaDoorRefFit
import Derived.Deep.LoopGhost
import Derived.BigQuiet
namespace Go.Proofs
open Go.Shelf Go.RowKit Go.Proofs.Wide Go.Proofs.Dig
/-- How two numbers lie. -/
def cmpV (x y : Int) : Int := if x < y then -1 else if x = y then 0 else 1
theorem cmpV_lt {x y : Int} (h : x < y) : cmpV x y = -1 := by unfold cmpV; rw [if_pos h]
theorem cmpV_gt {x y : Int} (h : y < x) : cmpV x y = 1 := by unfold cmpV; rw [if_neg (by omega), if_neg (by omega)]
theorem cmpV_eq (x : Int) : cmpV x x = 0 := by unfold cmpV; rw [if_neg (by omega), if_pos rfl]
set_option maxRecDepth 100000 in
set_option maxHeartbeats 4000000 in
theorem refCmp_any (A B : Option Addr) (a b : List Int) (c1 c2 : Nat) (w : World) (ha : Canon a) (hb : Canon b) (hra : Rd w A a) (hrb : Rd w B b) (_hla : a.length ≤ c1) (hlb : b.length ≤ c2) (ha6 : a.length ≤ 1000000) :
    Calls Tryd.prog 75 #[.slice A a.length c1, .slice B b.length c2] w fun e w' => e = .returned (.int .i64 (cmpV (val a) (val b))) ∧ Below w.heap.size w w' := by
  obtain ⟨r, hr⟩ : ∃ r, cmpV (val a) (val b) = r := ⟨_, rfl⟩
  rw [hr]
  obtain ⟨na, hna⟩ : ∃ n, a.length = n := ⟨_, rfl⟩
  obtain ⟨nb, hnb⟩ : ∃ n, b.length = n := ⟨_, rfl⟩
  rw [hna] at _hla ha6
  rw [hnb] at hlb
  rw [hna, hnb]
  have HR := Lib.hid hr; have HNA := Lib.hid hna; have HNB := Lib.hid hnb; have HA := Lib.hid ha; have HB := Lib.hid hb
  have RA := Lib.hid hra; have RB := Lib.hid hrb
  clear hr hna hnb ha hb hra hrb
  by_cases hlt : na < nb
  · have hltI : (na : Int) < (nb : Int) := by omega
    have hneI : ¬ (na : Int) = (nb : Int) := by omega
    have e : -1 = r := by rw [← HR.out, cmpV_lt (cmp_len HA.out.1 HB.out (by rw [HNA.out, HNB.out]; exact hlt))]
    subst e
    go_enter Tryd.func75, Tryd.ntmps75
    go_wp2
    go_ret
    exact ⟨rfl, by repeat (first | exact Below.refl _ _ | assumption | apply ba | apply bd | apply bdr)⟩
  · by_cases hgt : nb < na
    · have hltI : ¬ (na : Int) < (nb : Int) := by omega
      have hneI : ¬ (na : Int) = (nb : Int) := by omega
      have e : 1 = r := by rw [← HR.out, cmpV_gt (cmp_len HB.out.1 HA.out (by rw [HNA.out, HNB.out]; exact hgt))]
      subst e
      go_enter Tryd.func75, Tryd.ntmps75
      go_wp2
      go_ret
      exact ⟨rfl, by repeat (first | exact Below.refl _ _ | assumption | apply ba | apply bd | apply bdr)⟩
    · obtain rfl : na = nb := by omega
      have w0' : IntKind.i64.wrap ((na : Int) - 1) = (na : Int) - 1 := by rw [IntKind.wrap_i64]; omega
      go_enter Tryd.func75, Tryd.ntmps75
      go_wp2
      go_loopw [5] (fun s5 wx => ∃ i : Nat, s5 = .int .i64 ((i : Int) - 1) ∧ i ≤ na ∧ Hid (a.drop i = b.drop i) ∧ Below w.heap.size w wx) (fun s5 _ => (intOf s5 + 1).toNat)
      case atStart => exact ⟨na, rfl, Nat.le_refl _, Lib.hid (by rw [List.drop_eq_nil_of_le (by rw [HNA.out]; exact Nat.le_refl _), List.drop_eq_nil_of_le (by rw [HNB.out]; exact Nat.le_refl _)]), Below.refl _ _⟩
      case round =>
        obtain ⟨i, rfl, hi, heq, HBW⟩ := hrel
        cases i with
        | zero =>
          have hgo : ¬ (0 : Int) ≤ (((0 : Nat) : Int) - 1) := by omega
          have e : 0 = r := by
            have h := heq.out
            rw [List.drop_zero, List.drop_zero] at h
            rw [← HR.out, h, cmpV_eq]
          subst e
          clear heq
          go_wp2
          go_ret
          exact ⟨rfl, by repeat (first | exact Below.refl _ _ | assumption | apply ba | apply bd | apply bdr)⟩
        | succ i =>
          have hia : i < a.length := by rw [HNA.out]; omega
          have hib : i < b.length := by rw [HNB.out]; omega
          obtain ⟨ada, rfl, hca⟩ := (RA.out.call HBW) (by intro e; rw [e] at hia; simp at hia)
          obtain ⟨adb, rfl, hcb⟩ := (RB.out.call HBW) (by intro e; rw [e] at hib; simp at hib)
          have hx := hca i _ (List.getElem?_eq_getElem hia)
          have hy := hcb i _ (List.getElem?_eq_getElem hib)
          have e1 : a.drop i = a[i] :: a.drop (i + 1) := List.drop_eq_getElem_cons hia
          have e2 : b.drop i = b[i] :: b.drop (i + 1) := List.drop_eq_getElem_cons hib
          have g1 : a.getD i 0 = a[i] := by rw [List.getD_eq_getElem?_getD, List.getElem?_eq_getElem hia]; rfl
          have g2 : b.getD i 0 = b[i] := by rw [List.getD_eq_getElem?_getD, List.getElem?_eq_getElem hib]; rfl
          obtain ⟨x, hxe⟩ : ∃ x, a[i] = x := ⟨_, rfl⟩
          obtain ⟨y, hye⟩ : ∃ y, b[i] = y := ⟨_, rfl⟩
          rw [hxe] at hx e1 g1
          rw [hye] at hy e2 g2
          have wj : IntKind.i64.wrap ((i : Int) - 1) = (i : Int) - 1 := by rw [IntKind.wrap_i64]; omega
          have ei : (((i + 1 : Nat) : Int) - 1) = (i : Int) := by omega
          have hgo : (0 : Int) ≤ (i : Int) := by omega
          have hin : (i : Int) < (na : Int) := by omega
          rw [ei]
          have E1 := Lib.hid e1; have E2 := Lib.hid e2; have G1 := Lib.hid g1; have G2 := Lib.hid g2; have IA := Lib.hid hia; have IB := Lib.hid hib
          clear e1 e2 g1 g2 hca hcb hxe hye ei hia hib
          by_cases hxy : x = y
          · subst hxy
            have hn : Hid (a.drop i = b.drop i) := Lib.hid (by rw [E1.out, E2.out, heq.out])
            clear heq
            go_wp2
            go_quiet (fail)
            go_wp2
            go_roundw
            case rel => exact ⟨i, rfl, by omega, hn, by repeat (first | exact HBW | apply ba | apply bd | apply bdr)⟩
            case measure => first | (simp [intOf]; done) | (simp [intOf]; omega)
          · by_cases hl : x < y
            · have e : -1 = r := by rw [← HR.out, cmpV_lt (cmp_at HA.out.1 HB.out.1 IA.out IB.out heq.out (by rw [G1.out, G2.out]; exact hl))]
              subst e
              clear heq
              go_wp2
              go_quiet (fail)
              go_wp2
              go_quiet (fail)
              go_wp2
              go_ret
              exact ⟨rfl, by repeat (first | exact Below.refl _ _ | assumption | apply ba | apply bd | apply bdr)⟩
            · have e : 1 = r := by rw [← HR.out, cmpV_gt (cmp_at HB.out.1 HA.out.1 IB.out IA.out heq.out.symm (by rw [G1.out, G2.out]; omega))]
              subst e
              clear heq
              go_wp2
              go_quiet (fail)
              go_wp2
              go_quiet (fail)
              go_wp2
              go_ret
              exact ⟨rfl, by repeat (first | exact Below.refl _ _ | assumption | apply ba | apply bd | apply bdr)⟩
end Go.Proofs
namespace Go.Proofs
open Go.Shelf Go.RowKit Go.Proofs.Wide Go.Proofs.Dig
/-- Digits of the reference's, in a row of their own. -/
def RowOut (B : Nat) (w0 : World) (l : List Int) (e : Ending) (w' : World) : Prop := ∃ v, e = .returned v ∧ w'.ownsRow B 3 1 v l.length (cellsD l) ∧ Below B w0 w'
theorem plus_top {a b out : List Int} {c : Int} (h : PlusI a b out c) (hl : out.length ≤ a.length ∨ out.length ≤ b.length ∨ (c = 0 ∧ 10 ^ (out.length - 1) ≤ val out)) (hgo : out.length < a.length ∨ out.length < b.length ∨ 0 < c) :
    (out ++ [(c + a.getD out.length 0 + b.getD out.length 0) % 10]).length ≤ a.length ∨ (out ++ [(c + a.getD out.length 0 + b.getD out.length 0) % 10]).length ≤ b.length ∨ ((c + a.getD out.length 0 + b.getD out.length 0) / 10 = 0 ∧ 10 ^ ((out ++ [(c + a.getD out.length 0 + b.getD out.length 0) % 10]).length - 1) ≤ val (out ++ [(c + a.getD out.length 0 + b.getD out.length 0) % 10])) := by
  rw [List.length_append, List.length_cons, List.length_nil]
  by_cases h1 : out.length < a.length
  · exact .inl (by omega)
  · by_cases h2 : out.length < b.length
    · exact .inr (.inl (by omega))
    · right; right
      have e1 : a.getD out.length 0 = 0 := by rw [List.getD_eq_getElem?_getD, List.getElem?_eq_none (by omega)]; rfl
      have e2 : b.getD out.length 0 = 0 := by rw [List.getD_eq_getElem?_getD, List.getElem?_eq_none (by omega)]; rfl
      have hc : c = 1 := by have := h.2.2.1; omega
      subst hc
      rw [e1, e2]
      refine ⟨rfl, ?_⟩
      rw [val_snoc]
      have := val_nonneg out h.1
      simp only [Nat.zero_add, Nat.add_sub_cancel]
      show (10 : Int) ^ out.length ≤ val out + 10 ^ out.length * 1
      omega
theorem getD_out {a : List Int} {n : Nat} (h : ¬ n < a.length) : a.getD n 0 = 0 := by rw [List.getD_eq_getElem?_getD, List.getElem?_eq_none (by omega)]; rfl
set_option maxRecDepth 100000 in
set_option maxHeartbeats 8000000 in
theorem refPlus_any (A B : Option Addr) (a b : List Int) (c1 c2 : Nat) (w0 : World) (ha : Canon a) (hb : Canon b) (hra : Rd w0 A a) (hrb : Rd w0 B b) (_hla : a.length ≤ c1) (_hlb : b.length ≤ c2) (ha6 : a.length ≤ 1000000) (hb6 : b.length ≤ 1000000) :
    Calls Tryd.prog 74 #[.slice A a.length c1, .slice B b.length c2] w0 (RowOut w0.heap.size w0 (digs (val a + val b).toNat)) := by
  obtain ⟨i0, hi, hz0, hz1, hz2⟩ := info_parts int_info
  obtain ⟨na, hna⟩ : ∃ n, a.length = n := ⟨_, rfl⟩
  obtain ⟨nb, hnb⟩ : ∃ n, b.length = n := ⟨_, rfl⟩
  rw [hna] at _hla ha6
  rw [hnb] at _hlb hb6
  rw [hna, hnb]
  have HNA := Lib.hid hna; have HNB := Lib.hid hnb; have HA := Lib.hid ha; have HB := Lib.hid hb
  have RA := Lib.hid hra; have RB := Lib.hid hrb
  obtain ⟨res, hres⟩ : ∃ r, digs (val a + val b).toNat = r := ⟨_, rfl⟩
  rw [hres]
  have HRES := Lib.hid hres
  clear hna hnb ha hb hra hrb hres
  obtain ⟨mx, hm1, hm2, hm3⟩ : ∃ mx, na ≤ mx ∧ nb ≤ mx ∧ (mx = na ∨ mx = nb) := by
    rcases Nat.le_total na nb with h | h
    · exact ⟨nb, h, Nat.le_refl _, .inr rfl⟩
    · exact ⟨na, Nat.le_refl _, h, .inl rfl⟩
  go_enter Tryd.func74, Tryd.ntmps74
  go_wp2
  go_loopw [5, 6, 7] (fun s5 s6 s7 wx => ∃ (out : List Int) (c : Int), s6 = .int .i64 c ∧ s7 = .int .i64 out.length ∧ (out.length ≤ 1000001 ∧ 0 ≤ c ∧ c ≤ 1) ∧ Hid (PlusI a b out c) ∧ Hid (out.length ≤ a.length ∨ out.length ≤ b.length ∨ (c = 0 ∧ 10 ^ (out.length - 1) ≤ val out)) ∧ wx.ownsRow w0.heap.size 3 1 s5 out.length (cellsD out) ∧ Below w0.heap.size w0 wx) (fun _ _ s7 _ => mx + 1 - (intOf s7).toNat)
  case atStart => exact ⟨[], 0, rfl, rfl, ⟨by simp, by omega, by omega⟩, Lib.hid (plus_start a b), Lib.hid (.inl (by simp)), ⟨rfl, .inl ⟨rfl, rfl⟩⟩, Below.refl _ _⟩
  case round =>
    obtain ⟨out, c, rfl, rfl, ⟨hn6, hcl, hch⟩, hp, ht, hown, HBW⟩ := hrel
    obtain ⟨Av, cp, rfl⟩ := own_slice hown
    obtain ⟨n, hn⟩ : ∃ n, out.length = n := ⟨_, rfl⟩
    have HN := Lib.hid hn
    rw [hn] at hown hn6
    rw [hn]
    clear hn
    have hlo : ∀ k, (Value.slice Av n cp).ownBlock = some k → w0.heap.size ≤ k := fun k hk => (hown.lt k hk).1
    have hbb : w0.heap.size ≤ wr.heap.size := HBW.size
    by_cases hP : n < na
    · by_cases hQ : n < nb
      · skip
        have hPI : (n : Int) < (na : Int) := by omega
        have hQI : (n : Int) < (nb : Int) := by omega
        have hn0 : (0 : Int) ≤ (n : Int) := by omega
        have hPa : n < a.length := by rw [HNA.out]; omega
        obtain ⟨ada, hada, hca⟩ := (RA.out.call HBW) (by intro e; rw [e] at hPa; simp at hPa)
        subst hada
        have hx := hca n _ (List.getElem?_eq_getElem hPa)
        have gx : a.getD n 0 = a[n] := by rw [List.getD_eq_getElem?_getD, List.getElem?_eq_getElem hPa]; rfl
        have dx := getD_dig HA.out.1 n
        obtain ⟨x, hxe⟩ : ∃ z, a[n] = z := ⟨_, rfl⟩
        rw [hxe] at hx gx
        rw [gx] at dx
        have Gx := Lib.hid gx
        clear hca hxe gx hPa
        have hQb : n < b.length := by rw [HNB.out]; omega
        obtain ⟨adb, hadb, hcb⟩ := (RB.out.call HBW) (by intro e; rw [e] at hQb; simp at hQb)
        subst hadb
        have hy := hcb n _ (List.getElem?_eq_getElem hQb)
        have gy : b.getD n 0 = b[n] := by rw [List.getD_eq_getElem?_getD, List.getElem?_eq_getElem hQb]; rfl
        have dy := getD_dig HB.out.1 n
        obtain ⟨y, hye⟩ : ∃ z, b[n] = z := ⟨_, rfl⟩
        rw [hye] at hy gy
        rw [gy] at dy
        have Gy := Lib.hid gy
        clear hcb hye gy hQb
        obtain ⟨s, hs⟩ : ∃ s, s = c + x + y := ⟨_, rfl⟩
        have w1 : IntKind.i64.wrap (c + x) = c + x := by rw [IntKind.wrap_i64]; omega
        have w2 : IntKind.i64.wrap (c + x + y) = s := by rw [IntKind.wrap_i64, hs]; omega
        have hstep := plus_step HA.out.1 HB.out.1 hp.out
        have htop := plus_top hp.out ht.out (by rw [HN.out, HNA.out, HNB.out]; omega)
        rw [HN.out, Gx.out, Gy.out, show c + x + y = s by rw [hs]; try omega] at hstep htop
        have HST := Lib.hid hstep; have HTP := Lib.hid htop
        have hs0 : 0 ≤ s := by omega
        have hs19 : s ≤ 19 := by omega
        have wn : IntKind.i64.wrap ((n : Int) + 1) = ((n + 1 : Nat) : Int) := by rw [IntKind.wrap_i64]; omega
        obtain ⟨D, hD⟩ : ∃ D, s % 10 = D := ⟨_, rfl⟩
        obtain ⟨q, hq⟩ : ∃ q, s / 10 = q := ⟨_, rfl⟩
        rw [hD, hq] at HST HTP
        have hmeas : mx + 1 - (n + 1) < mx + 1 - n := by have h := ht.out; rw [HN.out, HNA.out, HNB.out] at h; omega
        clear hstep htop hp ht
        clear hs
        go_wp2_with (at_builtin; go_must (refine wpList_append_own _ rfl (.tmp 46) (.tmp 49) 32 rfl w0.heap.size 3 i0 (.int .i64 0) 1 8 Tryd.underlying32 hi hz0 hz1 hz2 rfl (by decide) _ _ _ rfl (hown.alloc _) ⟨wr.heap.size, 0, none⟩ 1 1 [.int .i64 D] rfl rfl (cell_one_new _ _ _) (by intro u hu; simp at hu; subst hu; rfl) (by unfold maxLen; omega) (by omega) (by simp; omega) ?_; intro v3 w3 hown3 hgrow3 hnil3; obtain ⟨A3, c3, rfl⟩ := own_slice hown3))
        go_roundw
        case rel =>
          refine ⟨out ++ [D], q, by first | rfl | rw [hq], by rw [List.length_append, HN.out]; rfl, ⟨by rw [List.length_append, HN.out]; simp; omega, by omega, by omega⟩, HST, HTP, ?_, below_grown' (ba HBW) hgrow3 (by simp; omega) (fun k hk => by have := hlo k hk; omega)⟩
          rw [List.length_append, cellsD_snoc, HN.out]; exact hown3
        case measure => simp [intOf]; omega
      · skip
        have hPI : (n : Int) < (na : Int) := by omega
        have hQI : ¬ (n : Int) < (nb : Int) := by omega
        have hn0 : (0 : Int) ≤ (n : Int) := by omega
        have hPa : n < a.length := by rw [HNA.out]; omega
        obtain ⟨ada, hada, hca⟩ := (RA.out.call HBW) (by intro e; rw [e] at hPa; simp at hPa)
        subst hada
        have hx := hca n _ (List.getElem?_eq_getElem hPa)
        have gx : a.getD n 0 = a[n] := by rw [List.getD_eq_getElem?_getD, List.getElem?_eq_getElem hPa]; rfl
        have dx := getD_dig HA.out.1 n
        obtain ⟨x, hxe⟩ : ∃ z, a[n] = z := ⟨_, rfl⟩
        rw [hxe] at hx gx
        rw [gx] at dx
        have Gx := Lib.hid gx
        clear hca hxe gx hPa
        have Gy : Hid (b.getD n 0 = 0) := Lib.hid (getD_out (by rw [HNB.out]; omega))
        obtain ⟨s, hs⟩ : ∃ s, s = c + x := ⟨_, rfl⟩
        have w1 : IntKind.i64.wrap (c + x) = c + x := by rw [IntKind.wrap_i64]; omega
        have w2 : c + x = s := by rw [hs]
        have hstep := plus_step HA.out.1 HB.out.1 hp.out
        have htop := plus_top hp.out ht.out (by rw [HN.out, HNA.out, HNB.out]; omega)
        rw [HN.out, Gx.out, Gy.out, show c + x + 0 = s by rw [hs]; try omega] at hstep htop
        have HST := Lib.hid hstep; have HTP := Lib.hid htop
        have hs0 : 0 ≤ s := by omega
        have hs19 : s ≤ 19 := by omega
        have wn : IntKind.i64.wrap ((n : Int) + 1) = ((n + 1 : Nat) : Int) := by rw [IntKind.wrap_i64]; omega
        obtain ⟨D, hD⟩ : ∃ D, s % 10 = D := ⟨_, rfl⟩
        obtain ⟨q, hq⟩ : ∃ q, s / 10 = q := ⟨_, rfl⟩
        rw [hD, hq] at HST HTP
        have hmeas : mx + 1 - (n + 1) < mx + 1 - n := by have h := ht.out; rw [HN.out, HNA.out, HNB.out] at h; omega
        clear hstep htop hp ht
        clear hs
        go_wp2_with (at_builtin; go_must (refine wpList_append_own _ rfl (.tmp 46) (.tmp 49) 32 rfl w0.heap.size 3 i0 (.int .i64 0) 1 8 Tryd.underlying32 hi hz0 hz1 hz2 rfl (by decide) _ _ _ rfl (hown.alloc _) ⟨wr.heap.size, 0, none⟩ 1 1 [.int .i64 D] rfl rfl (cell_one_new _ _ _) (by intro u hu; simp at hu; subst hu; rfl) (by unfold maxLen; omega) (by omega) (by simp; omega) ?_; intro v3 w3 hown3 hgrow3 hnil3; obtain ⟨A3, c3, rfl⟩ := own_slice hown3))
        go_roundw
        case rel =>
          refine ⟨out ++ [D], q, by first | rfl | rw [hq], by rw [List.length_append, HN.out]; rfl, ⟨by rw [List.length_append, HN.out]; simp; omega, by omega, by omega⟩, HST, HTP, ?_, below_grown' (ba HBW) hgrow3 (by simp; omega) (fun k hk => by have := hlo k hk; omega)⟩
          rw [List.length_append, cellsD_snoc, HN.out]; exact hown3
        case measure => simp [intOf]; omega
    · by_cases hQ : n < nb
      · skip
        have hPI : ¬ (n : Int) < (na : Int) := by omega
        have hQI : (n : Int) < (nb : Int) := by omega
        have hn0 : (0 : Int) ≤ (n : Int) := by omega
        have Gx : Hid (a.getD n 0 = 0) := Lib.hid (getD_out (by rw [HNA.out]; omega))
        have hQb : n < b.length := by rw [HNB.out]; omega
        obtain ⟨adb, hadb, hcb⟩ := (RB.out.call HBW) (by intro e; rw [e] at hQb; simp at hQb)
        subst hadb
        have hy := hcb n _ (List.getElem?_eq_getElem hQb)
        have gy : b.getD n 0 = b[n] := by rw [List.getD_eq_getElem?_getD, List.getElem?_eq_getElem hQb]; rfl
        have dy := getD_dig HB.out.1 n
        obtain ⟨y, hye⟩ : ∃ z, b[n] = z := ⟨_, rfl⟩
        rw [hye] at hy gy
        rw [gy] at dy
        have Gy := Lib.hid gy
        clear hcb hye gy hQb
        obtain ⟨s, hs⟩ : ∃ s, s = c + y := ⟨_, rfl⟩
        have w2 : IntKind.i64.wrap (c + y) = s := by rw [IntKind.wrap_i64, hs]; omega
        have hstep := plus_step HA.out.1 HB.out.1 hp.out
        have htop := plus_top hp.out ht.out (by rw [HN.out, HNA.out, HNB.out]; omega)
        rw [HN.out, Gx.out, Gy.out, show c + 0 + y = s by rw [hs]; try omega] at hstep htop
        have HST := Lib.hid hstep; have HTP := Lib.hid htop
        have hs0 : 0 ≤ s := by omega
        have hs19 : s ≤ 19 := by omega
        have wn : IntKind.i64.wrap ((n : Int) + 1) = ((n + 1 : Nat) : Int) := by rw [IntKind.wrap_i64]; omega
        obtain ⟨D, hD⟩ : ∃ D, s % 10 = D := ⟨_, rfl⟩
        obtain ⟨q, hq⟩ : ∃ q, s / 10 = q := ⟨_, rfl⟩
        rw [hD, hq] at HST HTP
        have hmeas : mx + 1 - (n + 1) < mx + 1 - n := by have h := ht.out; rw [HN.out, HNA.out, HNB.out] at h; omega
        clear hstep htop hp ht
        clear hs
        go_wp2_with (at_builtin; go_must (refine wpList_append_own _ rfl (.tmp 46) (.tmp 49) 32 rfl w0.heap.size 3 i0 (.int .i64 0) 1 8 Tryd.underlying32 hi hz0 hz1 hz2 rfl (by decide) _ _ _ rfl (hown.alloc _) ⟨wr.heap.size, 0, none⟩ 1 1 [.int .i64 D] rfl rfl (cell_one_new _ _ _) (by intro u hu; simp at hu; subst hu; rfl) (by unfold maxLen; omega) (by omega) (by simp; omega) ?_; intro v3 w3 hown3 hgrow3 hnil3; obtain ⟨A3, c3, rfl⟩ := own_slice hown3))
        go_roundw
        case rel =>
          refine ⟨out ++ [D], q, by first | rfl | rw [hq], by rw [List.length_append, HN.out]; rfl, ⟨by rw [List.length_append, HN.out]; simp; omega, by omega, by omega⟩, HST, HTP, ?_, below_grown' (ba HBW) hgrow3 (by simp; omega) (fun k hk => by have := hlo k hk; omega)⟩
          rw [List.length_append, cellsD_snoc, HN.out]; exact hown3
        case measure => simp [intOf]; omega
      · by_cases hc0 : 0 < c
        · skip
          have hPI : ¬ (n : Int) < (na : Int) := by omega
          have hQI : ¬ (n : Int) < (nb : Int) := by omega
          have hn0 : (0 : Int) ≤ (n : Int) := by omega
          have Gx : Hid (a.getD n 0 = 0) := Lib.hid (getD_out (by rw [HNA.out]; omega))
          have Gy : Hid (b.getD n 0 = 0) := Lib.hid (getD_out (by rw [HNB.out]; omega))
          obtain ⟨s, hs⟩ : ∃ s, s = c := ⟨_, rfl⟩
          have hstep := plus_step HA.out.1 HB.out.1 hp.out
          have htop := plus_top hp.out ht.out (by rw [HN.out, HNA.out, HNB.out]; omega)
          rw [HN.out, Gx.out, Gy.out, show c + 0 + 0 = s by rw [hs]; try omega] at hstep htop
          have HST := Lib.hid hstep; have HTP := Lib.hid htop
          have hs0 : 0 ≤ s := by omega
          have hs19 : s ≤ 19 := by omega
          have wn : IntKind.i64.wrap ((n : Int) + 1) = ((n + 1 : Nat) : Int) := by rw [IntKind.wrap_i64]; omega
          obtain ⟨D, hD⟩ : ∃ D, s % 10 = D := ⟨_, rfl⟩
          obtain ⟨q, hq⟩ : ∃ q, s / 10 = q := ⟨_, rfl⟩
          rw [hD, hq] at HST HTP
          have hmeas : mx + 1 - (n + 1) < mx + 1 - n := by have h := ht.out; rw [HN.out, HNA.out, HNB.out] at h; omega
          clear hstep htop hp ht
          subst hs
          go_wp2_with (at_builtin; go_must (refine wpList_append_own _ rfl (.tmp 46) (.tmp 49) 32 rfl w0.heap.size 3 i0 (.int .i64 0) 1 8 Tryd.underlying32 hi hz0 hz1 hz2 rfl (by decide) _ _ _ rfl (hown.alloc _) ⟨wr.heap.size, 0, none⟩ 1 1 [.int .i64 D] rfl rfl (cell_one_new _ _ _) (by intro u hu; simp at hu; subst hu; rfl) (by unfold maxLen; omega) (by omega) (by simp; omega) ?_; intro v3 w3 hown3 hgrow3 hnil3; obtain ⟨A3, c3, rfl⟩ := own_slice hown3))
          go_roundw
          case rel =>
            refine ⟨out ++ [D], q, by first | rfl | rw [hq], by rw [List.length_append, HN.out]; rfl, ⟨by rw [List.length_append, HN.out]; simp; omega, by omega, by omega⟩, HST, HTP, ?_, below_grown' (ba HBW) hgrow3 (by simp; omega) (fun k hk => by have := hlo k hk; omega)⟩
            rw [List.length_append, cellsD_snoc, HN.out]; exact hown3
          case measure => simp [intOf]; omega
        · obtain rfl : c = 0 := by omega
          have hPI : ¬ (n : Int) < (na : Int) := by omega
          have hQI : ¬ (n : Int) < (nb : Int) := by omega
          have hfin : out = res := by
            have e := plus_end hp.out (by rw [HN.out, HNA.out]; omega) (by rw [HN.out, HNB.out]; omega)
            have hcan : Canon out := plus_canon HA.out HB.out e.1 e.2 (by
              rcases ht.out with h | h | h
              · exact .inl h
              · exact .inr (.inl h)
              · exact .inr (.inr h.2))
            rw [← HRES.out, ← e.2]; exact canon_digs hcan
          have HF := Lib.hid hfin
          clear hfin hp ht
          go_wp2
          go_ret
          refine ⟨_, rfl, ?_, HBW⟩
          rw [← HF.out, HN.out]; exact hown
end Go.Proofs
namespace Go.Proofs
open Go.Shelf Go.RowKit Go.Proofs.Wide Go.Proofs.Dig
theorem rd_of_owns {w : World} {B : Nat} {v : Value} {l : List Int} (h : w.ownsRow B 3 1 v l.length (cellsD l)) : ∃ A c, v = .slice A l.length c ∧ Rd w A l ∧ l.length ≤ c ∧ c ≤ 9223372036854775807 := by
  rcases h.2 with ⟨hv, hn⟩ | ⟨g, cap, cur, hv, _, _, hc, hm, _, _⟩
  · refine ⟨none, 0, by rw [hn]; exact hv, ?_, by omega, by omega⟩
    rw [List.eq_nil_of_length_eq_zero hn]; exact Rd.nil
  · refine ⟨_, cap, hv, fun _ => ⟨_, rfl, fun j d hd => ?_⟩, hc, by unfold maxLen at hm; omega⟩
    refine h.cells (g := g) (by rw [hv]; rfl) j _ ?_
    unfold cellsD
    rw [List.getElem?_map, hd]; rfl
/-- Digits of the reference's, to be read. -/
def ReadOut (B : Nat) (w0 : World) (l : List Int) (e : Ending) (w' : World) : Prop := ∃ A c, e = .returned (.slice A l.length c) ∧ Rd w' A l ∧ l.length ≤ c ∧ c ≤ 9223372036854775807 ∧ Below B w0 w'
set_option maxRecDepth 100000 in
set_option maxHeartbeats 8000000 in
theorem refMinus_any (A B : Option Addr) (a b : List Int) (c1 c2 : Nat) (w0 : World) (ha : Canon a) (hb : Canon b) (hge : val b ≤ val a) (hra : Rd w0 A a) (hrb : Rd w0 B b) (hla : a.length ≤ c1) (_hlb : b.length ≤ c2) (ha6 : a.length ≤ 1000000) :
    Calls Tryd.prog 76 #[.slice A a.length c1, .slice B b.length c2] w0 (ReadOut w0.heap.size w0 (digs (val a - val b).toNat)) := by
  obtain ⟨i0, hi, hz0, hz1, hz2⟩ := info_parts int_info
  have hba := canon_len hb ha.1 hge
  obtain ⟨na, hna⟩ : ∃ n, a.length = n := ⟨_, rfl⟩
  obtain ⟨nb, hnb⟩ : ∃ n, b.length = n := ⟨_, rfl⟩
  rw [hna] at hla ha6 hba
  rw [hnb] at _hlb hba
  rw [hna, hnb]
  have HNA := Lib.hid hna; have HNB := Lib.hid hnb; have HA := Lib.hid ha; have HB := Lib.hid hb
  have RA := Lib.hid hra; have RB := Lib.hid hrb; have HGE := Lib.hid hge
  obtain ⟨res, hres⟩ : ∃ r, digs (val a - val b).toNat = r := ⟨_, rfl⟩
  rw [hres]
  have HRES := Lib.hid hres
  clear hna hnb ha hb hra hrb hres hge
  go_enter Tryd.func76, Tryd.ntmps76
  go_wp2
  go_loopw [5, 6, 7] (fun s5 s6 s7 wx => ∃ (out : List Int) (c : Int), s6 = .int .i64 c ∧ s7 = .int .i64 out.length ∧ (out.length ≤ na ∧ 0 ≤ c ∧ c ≤ 1) ∧ Hid (MinusI a b out c) ∧ wx.ownsRow w0.heap.size 3 1 s5 out.length (cellsD out) ∧ Below w0.heap.size w0 wx) (fun _ _ s7 _ => na - (intOf s7).toNat)
  case atStart => exact ⟨[], 0, rfl, rfl, ⟨by simp, by omega, by omega⟩, Lib.hid (minus_start a b), ⟨rfl, .inl ⟨rfl, rfl⟩⟩, Below.refl _ _⟩
  case round =>
    obtain ⟨out, c, rfl, rfl, ⟨hn6, hcl, hch⟩, hp, hown, HBW⟩ := hrel
    obtain ⟨Av, cp, rfl⟩ := own_slice hown
    obtain ⟨n, hn⟩ : ∃ n, out.length = n := ⟨_, rfl⟩
    have HN := Lib.hid hn
    have hown0 := Lib.hid hown
    rw [hn] at hown hn6
    rw [hn]
    clear hn
    have hlo : ∀ k, (Value.slice Av n cp).ownBlock = some k → w0.heap.size ≤ k := fun k hk => (hown.lt k hk).1
    have hbb : w0.heap.size ≤ wr.heap.size := HBW.size
    by_cases hP : n < na
    · by_cases hQ : n < nb
      · skip
        have hPI : (n : Int) < (na : Int) := by omega
        have hQI : (n : Int) < (nb : Int) := by omega
        have hn0 : (0 : Int) ≤ (n : Int) := by omega
        have hPa : n < a.length := by rw [HNA.out]; omega
        obtain ⟨ada, hada, hca⟩ := (RA.out.call HBW) (by intro e; rw [e] at hPa; simp at hPa)
        subst hada
        have hx := hca n _ (List.getElem?_eq_getElem hPa)
        have gx : a.getD n 0 = a[n] := by rw [List.getD_eq_getElem?_getD, List.getElem?_eq_getElem hPa]; rfl
        have dx := getD_dig HA.out.1 n
        obtain ⟨x, hxe⟩ : ∃ z, a[n] = z := ⟨_, rfl⟩
        rw [hxe] at hx gx
        rw [gx] at dx
        have Gx := Lib.hid gx
        clear hca hxe gx hPa
        have hQb : n < b.length := by rw [HNB.out]; omega
        obtain ⟨adb, hadb, hcb⟩ := (RB.out.call HBW) (by intro e; rw [e] at hQb; simp at hQb)
        subst hadb
        have hy := hcb n _ (List.getElem?_eq_getElem hQb)
        have gy : b.getD n 0 = b[n] := by rw [List.getD_eq_getElem?_getD, List.getElem?_eq_getElem hQb]; rfl
        have dy := getD_dig HB.out.1 n
        obtain ⟨y, hye⟩ : ∃ z, b[n] = z := ⟨_, rfl⟩
        rw [hye] at hy gy
        rw [gy] at dy
        have Gy := Lib.hid gy
        clear hcb hye gy hQb
        obtain ⟨s, hs⟩ : ∃ s, s = x - c - y := ⟨_, rfl⟩
        have w1 : IntKind.i64.wrap (x - c) = x - c := by rw [IntKind.wrap_i64]; omega
        have w2 : IntKind.i64.wrap (x - c - y) = s := by rw [IntKind.wrap_i64, hs]; omega
        have wn : IntKind.i64.wrap ((n : Int) + 1) = ((n + 1 : Nat) : Int) := by rw [IntKind.wrap_i64]; omega
        by_cases hneg : s < 0
        · skip
          have hstep := minus_low HA.out.1 HB.out.1 hp.out (by rw [HN.out, Gx.out, Gy.out]; omega)
          rw [HN.out, Gx.out, Gy.out, show x - c - y = s by omega] at hstep
          obtain ⟨D, hD⟩ : ∃ D, D = s + 10 := ⟨_, rfl⟩
          rw [← hD] at hstep
          have wq : IntKind.i64.wrap (s + 10) = D := by rw [IntKind.wrap_i64, hD]; omega
          have HST := Lib.hid hstep
          clear hstep hp hs hD
          go_wp2_with (at_builtin; go_must (refine wpList_append_own _ rfl (.tmp 35) (.tmp 37) 32 rfl w0.heap.size 3 i0 (.int .i64 0) 1 8 Tryd.underlying32 hi hz0 hz1 hz2 rfl (by decide) _ _ _ rfl (hown.alloc _) ⟨wr.heap.size, 0, none⟩ 1 1 [.int .i64 D] rfl rfl (cell_one_new _ _ _) (by intro u hu; simp at hu; subst hu; rfl) (by unfold maxLen; omega) (by omega) (by simp; omega) ?_; intro v3 w3 hown3 hgrow3 hnil3; obtain ⟨A3, c3, rfl⟩ := own_slice hown3))
          go_roundw
          case rel =>
            refine ⟨out ++ [D], 1, rfl, by rw [List.length_append, HN.out]; rfl, ⟨by rw [List.length_append, HN.out]; simp; omega, by omega, by omega⟩, HST, ?_, below_grown' (ba HBW) hgrow3 (by simp; omega) (fun k hk => by have := hlo k hk; omega)⟩
            rw [List.length_append, cellsD_snoc, HN.out]; exact hown3
          case measure => simp [intOf]; omega
        · skip
          have hstep := minus_high HA.out.1 HB.out.1 hp.out (by rw [HN.out, Gx.out, Gy.out]; omega)
          rw [HN.out, Gx.out, Gy.out, show x - c - y = s by omega] at hstep
          obtain ⟨D, hD⟩ : ∃ D, D = s := ⟨_, rfl⟩
          rw [← hD] at hstep
          have HST := Lib.hid hstep
          subst hD
          clear hstep hp hs
          go_wp2_with (at_builtin; go_must (refine wpList_append_own _ rfl (.tmp 35) (.tmp 37) 32 rfl w0.heap.size 3 i0 (.int .i64 0) 1 8 Tryd.underlying32 hi hz0 hz1 hz2 rfl (by decide) _ _ _ rfl (hown.alloc _) ⟨wr.heap.size, 0, none⟩ 1 1 [.int .i64 D] rfl rfl (cell_one_new _ _ _) (by intro u hu; simp at hu; subst hu; rfl) (by unfold maxLen; omega) (by omega) (by simp; omega) ?_; intro v3 w3 hown3 hgrow3 hnil3; obtain ⟨A3, c3, rfl⟩ := own_slice hown3))
          go_roundw
          case rel =>
            refine ⟨out ++ [D], 0, rfl, by rw [List.length_append, HN.out]; rfl, ⟨by rw [List.length_append, HN.out]; simp; omega, by omega, by omega⟩, HST, ?_, below_grown' (ba HBW) hgrow3 (by simp; omega) (fun k hk => by have := hlo k hk; omega)⟩
            rw [List.length_append, cellsD_snoc, HN.out]; exact hown3
          case measure => simp [intOf]; omega
      · skip
        have hPI : (n : Int) < (na : Int) := by omega
        have hQI : ¬ (n : Int) < (nb : Int) := by omega
        have hn0 : (0 : Int) ≤ (n : Int) := by omega
        have hPa : n < a.length := by rw [HNA.out]; omega
        obtain ⟨ada, hada, hca⟩ := (RA.out.call HBW) (by intro e; rw [e] at hPa; simp at hPa)
        subst hada
        have hx := hca n _ (List.getElem?_eq_getElem hPa)
        have gx : a.getD n 0 = a[n] := by rw [List.getD_eq_getElem?_getD, List.getElem?_eq_getElem hPa]; rfl
        have dx := getD_dig HA.out.1 n
        obtain ⟨x, hxe⟩ : ∃ z, a[n] = z := ⟨_, rfl⟩
        rw [hxe] at hx gx
        rw [gx] at dx
        have Gx := Lib.hid gx
        clear hca hxe gx hPa
        have Gy : Hid (b.getD n 0 = 0) := Lib.hid (getD_out (by rw [HNB.out]; omega))
        obtain ⟨s, hs⟩ : ∃ s, s = x - c := ⟨_, rfl⟩
        have w2 : IntKind.i64.wrap (x - c) = s := by rw [IntKind.wrap_i64, hs]; omega
        have wn : IntKind.i64.wrap ((n : Int) + 1) = ((n + 1 : Nat) : Int) := by rw [IntKind.wrap_i64]; omega
        by_cases hneg : s < 0
        · skip
          have hstep := minus_low HA.out.1 HB.out.1 hp.out (by rw [HN.out, Gx.out, Gy.out]; omega)
          rw [HN.out, Gx.out, Gy.out, show x - c - 0 = s by omega] at hstep
          obtain ⟨D, hD⟩ : ∃ D, D = s + 10 := ⟨_, rfl⟩
          rw [← hD] at hstep
          have wq : IntKind.i64.wrap (s + 10) = D := by rw [IntKind.wrap_i64, hD]; omega
          have HST := Lib.hid hstep
          clear hstep hp hs hD
          go_wp2_with (at_builtin; go_must (refine wpList_append_own _ rfl (.tmp 35) (.tmp 37) 32 rfl w0.heap.size 3 i0 (.int .i64 0) 1 8 Tryd.underlying32 hi hz0 hz1 hz2 rfl (by decide) _ _ _ rfl (hown.alloc _) ⟨wr.heap.size, 0, none⟩ 1 1 [.int .i64 D] rfl rfl (cell_one_new _ _ _) (by intro u hu; simp at hu; subst hu; rfl) (by unfold maxLen; omega) (by omega) (by simp; omega) ?_; intro v3 w3 hown3 hgrow3 hnil3; obtain ⟨A3, c3, rfl⟩ := own_slice hown3))
          go_roundw
          case rel =>
            refine ⟨out ++ [D], 1, rfl, by rw [List.length_append, HN.out]; rfl, ⟨by rw [List.length_append, HN.out]; simp; omega, by omega, by omega⟩, HST, ?_, below_grown' (ba HBW) hgrow3 (by simp; omega) (fun k hk => by have := hlo k hk; omega)⟩
            rw [List.length_append, cellsD_snoc, HN.out]; exact hown3
          case measure => simp [intOf]; omega
        · skip
          have hstep := minus_high HA.out.1 HB.out.1 hp.out (by rw [HN.out, Gx.out, Gy.out]; omega)
          rw [HN.out, Gx.out, Gy.out, show x - c - 0 = s by omega] at hstep
          obtain ⟨D, hD⟩ : ∃ D, D = s := ⟨_, rfl⟩
          rw [← hD] at hstep
          have HST := Lib.hid hstep
          subst hD
          clear hstep hp hs
          go_wp2_with (at_builtin; go_must (refine wpList_append_own _ rfl (.tmp 35) (.tmp 37) 32 rfl w0.heap.size 3 i0 (.int .i64 0) 1 8 Tryd.underlying32 hi hz0 hz1 hz2 rfl (by decide) _ _ _ rfl (hown.alloc _) ⟨wr.heap.size, 0, none⟩ 1 1 [.int .i64 D] rfl rfl (cell_one_new _ _ _) (by intro u hu; simp at hu; subst hu; rfl) (by unfold maxLen; omega) (by omega) (by simp; omega) ?_; intro v3 w3 hown3 hgrow3 hnil3; obtain ⟨A3, c3, rfl⟩ := own_slice hown3))
          go_roundw
          case rel =>
            refine ⟨out ++ [D], 0, rfl, by rw [List.length_append, HN.out]; rfl, ⟨by rw [List.length_append, HN.out]; simp; omega, by omega, by omega⟩, HST, ?_, below_grown' (ba HBW) hgrow3 (by simp; omega) (fun k hk => by have := hlo k hk; omega)⟩
            rw [List.length_append, cellsD_snoc, HN.out]; exact hown3
          case measure => simp [intOf]; omega
    · obtain rfl : n = na := by omega
      have hPI : ¬ (n : Int) < (n : Int) := by omega
      have e := minus_end hp.out (by rw [HN.out, HNA.out]) (by rw [HNA.out, HNB.out]; exact hba) HGE.out
      obtain ⟨cT, vT, lT, eT⟩ := trim_spec out e.1
      have hfin : trimL out = res := by rw [← HRES.out, ← e.2, ← vT]; exact canon_digs cT
      obtain ⟨A9, c9, hv9, hrd9, hl9, hc9⟩ := rd_of_owns hown0.out
      have tr := trim_any A9 out c9 wr hrd9 hl9 hc9
      injection hv9 with q1 q2 q3
      subst q1
      subst q3
      rw [hfin, HN.out] at tr
      have HTR := Lib.hid tr
      have hrr : Rd wr Av res := by rw [← hfin, eT]; exact hrd9.take _
      have hll : res.length ≤ cp := by rw [← hfin]; omega
      have HRR := Lib.hid hrr
      clear tr hrr hrd9 e cT vT eT hfin hp
      go_wp2_with (go_at_call 34; refine HTR.out.mono ?_; rintro e w' ⟨rfl, rfl⟩)
      go_ret
      exact ⟨_, _, rfl, HRR.out, hll, hc9, HBW⟩
end Go.Proofs
