/- The reference fits a value. No condition beyond what the theorems state. -/
import Derived.Test.YtmggffhecopgiaaDoorRefTrim
namespace Go.Proofs
open Go.Shelf Go.RowKit Go.Proofs.Wide Go.Proofs.Dig
theorem Rd.tail {w : World} {ad : Addr} {l : List Int} (h : Rd w (some ad) l) : Rd w (some (ad.add 1)) (l.drop 1) := fun hne => by
  obtain ⟨a, e, hc⟩ := h (fun e => hne (by rw [e]; rfl))
  injection e with e
  subst e
  refine ⟨_, rfl, fun j d hd => ?_⟩
  have e2 : (ad.add 1).add j = ad.add (1 + j) := by
    unfold Addr.add
    by_cases hj : j = 0 <;> simp [hj, Nat.add_assoc]
  rw [e2]
  exact hc (1 + j) d (by rw [List.getElem?_drop] at hd; exact hd)
theorem val_drop1 (l : List Int) (h : isDig l) : val (l.drop 1) = val l / 10 := by
  cases l with
  | nil => rfl
  | cons d l => have := h d (by simp); show val l = (d + 10 * val l) / 10; omega
theorem head_mod (l : List Int) (h : isDig l) : l.getD 0 0 = val l % 10 := by
  cases l with
  | nil => rfl
  | cons d l => have := h d (by simp); show d = (d + 10 * val l) % 10; omega
theorem val_drop (l : List Int) (h : isDig l) (j : Nat) : val (l.drop j) = val l / 10 ^ j := by
  induction j with
  | zero => simp
  | succ j ih =>
    have e : l.drop (j + 1) = (l.drop j).drop 1 := by rw [List.drop_drop]
    rw [e, val_drop1 _ (isDig_drop h j), ih, Int.pow_succ, Int.ediv_ediv_of_nonneg (Int.le_of_lt (p10 j))]
theorem Rd.cut1 {w : World} {A : Option Addr} {l : List Int} {c : Nat} (h : Rd w A l) (h1 : 0 < l.length) (hc : l.length ≤ c) :
    Rd w (if c = 1 then A else Option.map (fun x => { block := x.block, off := x.off + 1 }) A) (l.drop 1) := by
  by_cases hc1 : c = 1
  · have : l.drop 1 = [] := List.drop_eq_nil_of_le (by omega)
    rw [this]; exact Rd.nil
  · rw [if_neg hc1]
    obtain ⟨ad, rfl, hh⟩ := h (by intro e; rw [e] at h1; simp at h1)
    have hR : Rd w (some ad) l := fun _ => ⟨ad, rfl, hh⟩
    exact hR.tail
/-- A magnitude with its sign. -/
def sg (neg : Bool) (u : Int) : Int := if neg = true then -u else u
theorem norm_s' (s : Nat) (x : Int) : norm (s + 1) x = if x % 10 = 0 then norm s (x / 10) else (x, s + 1) := rfl
theorem sg_div (neg : Bool) (u : Int) (h : u % 10 = 0) : sg neg u / 10 = sg neg (u / 10) ∧ sg neg u % 10 = 0 := by unfold sg; split <;> omega
theorem sg_mod (neg : Bool) (u : Int) (h : u % 10 ≠ 0) : sg neg u % 10 ≠ 0 := by unfold sg; split <;> omega
theorem cut_sg (neg : Bool) (u : Int) (s : Nat) (hu : 0 ≤ u) (h : 9 < s) : cut (sg neg u) s = sg neg (u / 10 ^ (s - 9)) := by
  unfold cut sg
  rw [if_pos h]
  cases neg with
  | false => simp only [Bool.false_eq_true, if_false]; exact Int.tdiv_eq_ediv_of_nonneg hu
  | true => simp only [if_true]; rw [Int.neg_tdiv, Int.tdiv_eq_ediv_of_nonneg hu]
set_option maxRecDepth 100000 in
set_option maxHeartbeats 4000000 in
theorem refFit_any (neg : Bool) (A : Option Addr) (l : List Int) (c s : Nat) (w0 : World) (hd : isDig l) (hr : Rd w0 A l) (hl : l.length ≤ c) (hc : c ≤ 9223372036854775807) (hs : s ≤ 100000) :
    Calls Tryd.prog 12 #[.agg #[.bool neg, .slice A l.length c], .int .i64 s] w0 fun e w' => e = .returned (.tuple #[.int .i64 (outN (fitZ (sg neg (val l)) s)), .int .i64 (outK (fitZ (sg neg (val l)) s)), .bool (fitZ (sg neg (val l)) s).isSome]) ∧ Below w0.heap.size w0 w' := by
  obtain ⟨rn, hrn⟩ : ∃ x, outN (fitZ (sg neg (val l)) s) = x := ⟨_, rfl⟩
  obtain ⟨rk, hrk⟩ : ∃ x, outK (fitZ (sg neg (val l)) s) = x := ⟨_, rfl⟩
  obtain ⟨ro, hro⟩ : ∃ x, (fitZ (sg neg (val l)) s).isSome = x := ⟨_, rfl⟩
  rw [hrn, hrk, hro]
  have HRN := Lib.hid hrn; have HRK := Lib.hid hrk; have HRO := Lib.hid hro; have HD := Lib.hid hd
  have HR : Hid (Rd (w0.alloc (.cells #[.bool neg, .slice A l.length c] 34)) A l) := Lib.hid (hr.call ((Below.refl _ _).alloc (Nat.le_refl _) _))
  clear hrn hrk hro hd hr
  go_enter Tryd.func12, Tryd.ntmps12
  go_wp2
  go_loop [1, 7] (fun s1 s7 => ∃ (j k : Nat) (A' : Option Addr) (c' : Nat), s1 = .int .i64 k ∧ k + j = s ∧ (j = 0 ∨ 9 ≤ k) ∧ s7 = .slice A' (l.drop j).length c' ∧ (l.drop j).length ≤ c' ∧ c' ≤ 9223372036854775807 ∧ Rd (w0.alloc (.cells #[.bool neg, .slice A l.length c] 34)) A' (l.drop j)) (fun s1 _ => (intOf s1).toNat)
  case atStart => exact ⟨0, s, A, c, rfl, by omega, .inl rfl, rfl, by simpa using hl, hc, by simpa using HR.out⟩
  case round =>
    obtain ⟨j, k, A', c', rfl, hk, hk9, rfl, hl', hc', hrd⟩ := hrel
    by_cases h9 : (9 : Int) < (k : Int)
    · have w1 : IntKind.i64.wrap ((k : Int) - 1) = ((k - 1 : Nat) : Int) := by rw [IntKind.wrap_i64]; omega
      have HRD := Lib.hid hrd
      have hdd : l.drop (j + 1) = (l.drop j).drop 1 := by rw [List.drop_drop]
      have HDD := Lib.hid hdd
      have hlen1 : (l.drop (j + 1)).length = (l.drop j).length - 1 := by rw [hdd, List.length_drop (i := 1)]
      have HL1 := Lib.hid hlen1
      clear hrd hdd hlen1
      obtain ⟨m, hm⟩ : ∃ m, (l.drop j).length = m := ⟨_, rfl⟩
      have HM := Lib.hid hm
      rw [hm] at hl' HL1
      rw [hm]
      clear hm
      by_cases h0 : 0 < m
      · have h0I : (0 : Int) < (m : Int) := by omega
        have h1c : (1 : Int) ≤ (m : Int) := by omega
        have hmc : (m : Int) ≤ (c' : Int) := by omega
        have hn := HRD.out.cut1 (by rw [HM.out]; exact h0) (by rw [HM.out]; exact hl')
        have HN := Lib.hid hn
        clear hn
        go_wp2
        go_round
        case rel => exact ⟨j + 1, k - 1, _, _, rfl, by omega, .inr (by omega), by rw [HL1.out], by rw [HL1.out]; omega, by omega, by rw [HDD.out]; exact HN.out⟩
        case measure => simp [intOf]; omega
      · obtain rfl : m = 0 := by omega
        have hnil : l.drop j = [] := List.eq_nil_of_length_eq_zero HM.out
        have HNIL := Lib.hid hnil
        clear hnil
        go_wp2
        go_round
        case rel => exact ⟨j + 1, k - 1, _, _, rfl, by omega, .inr (by omega), by rw [HL1.out], by rw [HL1.out]; omega, hc', by rw [HDD.out, HNIL.out]; exact Rd.nil⟩
        case measure => simp [intOf]; omega
    · -- the digits behind the ninth are gone
      have hcutv : cut (sg neg (val l)) s = sg neg (val (l.drop j)) := by
        have hv := val_nonneg l HD.out
        by_cases hs9 : 9 < s
        · rw [cut_sg neg _ s hv hs9, val_drop l HD.out j, show s - 9 = j by omega]
        · have : j = 0 := by omega
          subst this
          unfold cut; rw [if_neg hs9, List.drop_zero]
      have hk9' : min s 9 = k := by omega
      have hfit : fitZ (sg neg (val l)) s = if -999999999999999999 ≤ (norm k (sg neg (val (l.drop j)))).1 ∧ (norm k (sg neg (val (l.drop j)))).1 ≤ 999999999999999999 then some (norm k (sg neg (val (l.drop j)))) else none := by
        unfold fitZ; rw [hcutv, hk9']
      have HF := Lib.hid hfit
      have HDJ := Lib.hid (isDig_drop HD.out j)
      have hk10 : k ≤ 9 := by omega
      clear hcutv hfit hk9' hk9 hk
      obtain ⟨p, hp⟩ : ∃ p, l.drop j = p := ⟨_, rfl⟩
      rw [hp] at HF HDJ hl' hrd
      rw [hp]
      have HRP := Lib.hid hrd
      clear hp hrd
      go_wp2
      go_loop [1, 7] (fun s1 s7 => ∃ (i m : Nat) (A1 : Option Addr) (c1 : Nat), s1 = .int .i64 m ∧ m ≤ 9 ∧ Hid (norm m (sg neg (val (p.drop i))) = norm k (sg neg (val p))) ∧ s7 = .slice A1 (p.drop i).length c1 ∧ (p.drop i).length ≤ c1 ∧ c1 ≤ 9223372036854775807 ∧ Hid (Rd (w0.alloc (.cells #[.bool neg, .slice A l.length c] 34)) A1 (p.drop i))) (fun s1 _ => (intOf s1).toNat)
      case atStart => exact ⟨0, k, A', c', rfl, hk10, Lib.hid (by rw [List.drop_zero]), by rw [List.drop_zero], by rw [List.drop_zero]; exact hl', hc', Lib.hid (by rw [List.drop_zero]; exact HRP.out)⟩
      case round =>
        obtain ⟨i, m, A1, c1, rfl, hm9, hq, rfl, hl1, hc1, hrd1⟩ := hrel
        obtain ⟨q, hpq⟩ : ∃ q, p.drop i = q := ⟨_, rfl⟩
        rw [hpq] at hq hl1 hrd1
        rw [hpq]
        have HPQ := Lib.hid hpq
        have HQ : Hid (isDig q) := Lib.hid (by rw [← hpq]; exact isDig_drop HDJ.out i)
        clear hpq
        by_cases hm0 : 0 < m
        · have hm0I : (0 : Int) < (m : Int) := by omega
          by_cases hlen : q.length = 0
          · have hqn : q = [] := List.eq_nil_of_length_eq_zero hlen
            subst hqn
            have HZ : Hid (([] : List Int).getD 0 0 = 0) := Lib.hid rfl
            have w1 : IntKind.i64.wrap ((m : Int) - 1) = ((m - 1 : Nat) : Int) := by rw [IntKind.wrap_i64]; omega
            have hdd : Hid (p.drop (i + 1) = ([] : List Int).drop 1) := Lib.hid (by rw [← HPQ.out, List.drop_drop])
            have hlen1 : Hid ((p.drop (i + 1)).length = ([] : List Int).length - 1) := Lib.hid (by rw [hdd.out, List.length_drop])
            have hn : Hid (norm (m - 1) (sg neg (val (p.drop (i + 1)))) = norm k (sg neg (val p))) := Lib.hid (by
              have e := sg_div neg (val []) (by rw [← head_mod [] HQ.out]; exact HZ.out)
              rw [← hq.out, hdd.out, val_drop1 [] HQ.out, ← e.1]
              obtain ⟨m', rfl⟩ : ∃ m', m = m' + 1 := ⟨m - 1, by omega⟩
              rw [norm_s', if_pos e.2]; rfl)
            clear hq hlen
            go_wp2
            go_round
            case rel => exact ⟨i + 1, m - 1, _, _, rfl, by omega, hn, by rw [hlen1.out]; rfl, by rw [hlen1.out]; simp, hc1, Lib.hid (by rw [hdd.out]; exact Rd.nil)⟩
            case measure => simp [intOf]; omega
          · have hlp : 0 < q.length := by omega
            have hlI : (0 : Int) < (q.length : Int) := by omega
            have hqne : ¬ q = [] := by intro e; rw [e] at hlp; simp at hlp
            have hln : ¬ (q.length : Int) = 0 := by omega
            have hl1I : (1 : Int) ≤ (q.length : Int) := by omega
            have hlcI : (q.length : Int) ≤ (c1 : Int) := by omega
            have h00 : (0 : Nat) < q.length := hlp
            obtain ⟨ad, rfl, hcell⟩ := hrd1.out (by intro e; subst e; simp at hlp)
            have hx := hcell 0 _ (List.getElem?_eq_getElem hlp)
            have hgd : q.getD 0 0 = q[0] := by rw [List.getD_eq_getElem?_getD, List.getElem?_eq_getElem hlp]; rfl
            obtain ⟨d, hd⟩ : ∃ d, q[0] = d := ⟨_, rfl⟩
            rw [hd] at hx hgd
            have HGD := Lib.hid hgd
            clear hgd hd hcell hlen
            have hx0 : (w0.alloc (.cells #[.bool neg, .slice A l.length c] 34)).cell? ad = some (.int .i64 d) := by simpa [Addr.add] using hx
            by_cases hd0 : d = 0
            · subst hd0
              have HZ : Hid (q.getD 0 0 = 0) := HGD
              have w1 : IntKind.i64.wrap ((m : Int) - 1) = ((m - 1 : Nat) : Int) := by rw [IntKind.wrap_i64]; omega
              have hdd : Hid (p.drop (i + 1) = q.drop 1) := Lib.hid (by rw [← HPQ.out, List.drop_drop])
              have hlen1 : Hid ((p.drop (i + 1)).length = q.length - 1) := Lib.hid (by rw [hdd.out, List.length_drop])
              have hn : Hid (norm (m - 1) (sg neg (val (p.drop (i + 1)))) = norm k (sg neg (val p))) := Lib.hid (by
                have e := sg_div neg (val q) (by rw [← head_mod q HQ.out]; exact HZ.out)
                rw [← hq.out, hdd.out, val_drop1 q HQ.out, ← e.1]
                obtain ⟨m', rfl⟩ : ∃ m', m = m' + 1 := ⟨m - 1, by omega⟩
                rw [norm_s', if_pos e.2]; rfl)
              have hcut := Lib.hid (hrd1.out.cut1 hlp hl1)
              clear hq
              go_wp2
              go_round
              case rel => exact ⟨i + 1, m - 1, _, _, rfl, by omega, hn, by rw [hlen1.out], by rw [hlen1.out]; omega, by omega, Lib.hid (by rw [hdd.out]; exact hcut.out)⟩
              case measure => simp [intOf]; omega
            · have HE : Hid (norm m (sg neg (val q)) = (sg neg (val q), m)) := Lib.hid (by
                obtain ⟨m', rfl⟩ : ∃ m', m = m' + 1 := ⟨m - 1, by omega⟩
                rw [norm_s', if_neg (sg_mod neg _ (by rw [← head_mod q HQ.out, HGD.out]; exact hd0))])
              -- the digits that are left, without noughts at the end
              have HFF : Hid (fitZ (sg neg (val l)) s = if -999999999999999999 ≤ sg neg (val q) ∧ sg neg (val q) ≤ 999999999999999999 then some (sg neg (val q), m) else none) := Lib.hid (by rw [HF.out, ← hq.out, HE.out])
              obtain ⟨cT, vT, lT, eT⟩ := trim_spec q HQ.out
              have tr := fun w (h : Rd w (some ad) q) => trim_any (some ad) q c1 w h hl1 (by omega)
              have HTR := Lib.hid tr
              have HRT : Hid (Rd (w0.alloc (.cells #[.bool neg, .slice A l.length c] 34)) (some ad) (trimL q)) := Lib.hid (by rw [eT]; exact hrd1.out.take _)
              have HV := Lib.hid vT
              have HCT := Lib.hid cT
              obtain ⟨T, hT⟩ : ∃ T, trimL q = T := ⟨_, rfl⟩
              rw [hT] at HTR HRT HV HCT lT
              have hTc : T.length ≤ c1 := by omega
              have hTcI : (T.length : Int) ≤ (c1 : Int) := by omega
              clear tr cT vT eT hT HF hq HE
              have hb1 : (((q.length : Int)) == 0) = false := by simpa using hln
              have hb2 : (d == 0) = false := by simpa using hd0
              have hb3 : ¬ ((((q.length : Int)) == 0) = true ∨ (d == 0) = true) := by simp [hb1, hb2]
              by_cases h18 : 18 < T.length
              · have h18I : (18 : Int) < (T.length : Int) := by omega
                have hbig : (1000000000000000000 : Int) ≤ val q := by
                  rw [← HV.out]
                  rcases HCT.out.2 with h | h
                  · rw [h] at h18; simp at h18
                  · have x : (10 : Nat) ^ 18 ≤ 10 ^ (T.length - 1) := Nat.pow_le_pow_right (by decide) (by omega)
                    have e2 : (((10 : Nat) ^ (T.length - 1) : Nat) : Int) = 10 ^ (T.length - 1) := by simp
                    have := Int.ofNat_le.2 x
                    rw [← e2] at h
                    have e3 : ((10 ^ 18 : Nat) : Int) = 1000000000000000000 := by decide
                    omega
                have hnone : fitZ (sg neg (val l)) s = none := by rw [HFF.out, if_neg]; unfold sg; split <;> omega
                have h1 := HRN.out; have h2 := HRK.out; have h3 := HRO.out
                rw [hnone] at h1 h2 h3
                obtain rfl : (0 : Int) = rn := h1
                obtain rfl : (0 : Int) = rk := h2
                obtain rfl : false = ro := h3
                clear hnone hbig
                go_wp2_with (go_at_call 34; refine (HTR.out _ hrd1.out).mono ?_; rintro e w' ⟨rfl, rfl⟩)
                exact bodyPost_ret (v := .tuple #[.int .i64 0, .int .i64 0, .bool false]) (by simp [results, Tryd.results12, go_sem]) rfl ⟨rfl, ba (Below.refl _ _)⟩
              · have h18I : ¬ (18 : Int) < (T.length : Int) := by omega
                have hsmall : 0 ≤ val T ∧ val T < 1000000000000000000 := by
                  have a := val_nonneg T HCT.out.1
                  have b := val_lt T HCT.out.1
                  have x : (10 : Nat) ^ T.length ≤ 10 ^ 18 := Nat.pow_le_pow_right (by decide) (by omega)
                  have e2 : (((10 : Nat) ^ T.length : Nat) : Int) = 10 ^ T.length := by simp
                  have := Int.ofNat_le.2 x
                  rw [← e2] at b
                  have e3 : ((10 ^ 18 : Nat) : Int) = 1000000000000000000 := by decide
                  omega
                have hsome : fitZ (sg neg (val l)) s = some (sg neg (val T), m) := by rw [HFF.out, ← HV.out, if_pos]; unfold sg; split <;> omega
                have h1 := HRN.out; have h2 := HRK.out; have h3 := HRO.out
                rw [hsome] at h1 h2 h3
                obtain rfl : sg neg (val T) = rn := h1
                obtain rfl : (m : Int) = rk := h2
                obtain rfl : true = ro := h3
                have HSM := Lib.hid hsmall
                clear hsome hsmall
                go_wp2_with (go_at_call 34; refine (HTR.out _ hrd1.out).mono ?_; rintro e w' ⟨rfl, rfl⟩)
                go_loop [8, 9] (fun s8 s9 => ∃ (i' : Nat) (v : Int), s9 = .int .i64 ((i' : Int) - 1) ∧ s8 = .int .i64 v ∧ i' ≤ T.length ∧ Hid (v = val (T.drop i'))) (fun _ s9 => (intOf s9 + 1).toNat)
                case atStart => exact ⟨T.length, 0, rfl, rfl, Nat.le_refl _, Lib.hid (by rw [List.drop_length]; rfl)⟩
                case round =>
                  obtain ⟨i', v, rfl, rfl, hi', hv⟩ := hrel
                  cases i' with
                  | zero =>
                    have hgo : ¬ (0 : Int) ≤ (((0 : Nat) : Int) - 1) := by omega
                    obtain rfl : v = val T := by rw [hv.out, List.drop_zero]
                    clear hv
                    have ha := HSM.out
                    have w1 : IntKind.i64.wrap (-(val T)) = -(val T) := by rw [IntKind.wrap_i64]; omega
                    clear ha
                    cases neg with
                    | false =>
                      go_wp2
                      exact bodyPost_ret (v := .tuple #[.int .i64 (val T), .int .i64 m, .bool true]) (by simp [results, Tryd.results12, go_sem]) rfl ⟨rfl, ba (Below.refl _ _)⟩
                    | true =>
                      go_wp2
                      exact bodyPost_ret (v := .tuple #[.int .i64 (-(val T)), .int .i64 m, .bool true]) (by simp [results, Tryd.results12, go_sem]) rfl ⟨rfl, ba (Below.refl _ _)⟩
                  | succ i' =>
                    have hlt : i' < T.length := by omega
                    have hT0 : ¬ T = [] := by intro e; rw [e] at hlt; simp at hlt
                    obtain ⟨ad2, hA, hcell2⟩ := HRT.out hT0
                    have hx2 := hcell2 i' _ (List.getElem?_eq_getElem hlt)
                    have e1 : T.drop i' = T[i'] :: T.drop (i' + 1) := List.drop_eq_getElem_cons hlt
                    have hdig : 0 ≤ T[i'] ∧ T[i'] ≤ 9 := HCT.out.1 _ (List.getElem_mem hlt)
                    have hle : val (T.drop i') ≤ val T := by
                      rw [val_drop T HCT.out.1 i']
                      exact Int.ediv_le_self _ HSM.out.1
                    have hnn := val_nonneg _ (isDig_drop HCT.out.1 (i' + 1))
                    have e2 : val (T.drop i') = T[i'] + 10 * val (T.drop (i' + 1)) := by rw [e1]; rfl
                    have hsm := HSM.out.2
                    obtain ⟨x, hx⟩ : ∃ x, T[i'] = x := ⟨_, rfl⟩
                    rw [hx] at hx2 e2 hdig
                    rw [← hv.out] at e2 hnn
                    have wm : IntKind.i64.wrap (10 * v) = 10 * v := by rw [IntKind.wrap_i64]; omega
                    have wa : IntKind.i64.wrap (10 * v + x) = 10 * v + x := by rw [IntKind.wrap_i64]; omega
                    have wj : IntKind.i64.wrap (((i' + 1 : Nat) : Int) - 1 - 1) = (i' : Int) - 1 := by rw [IntKind.wrap_i64]; omega
                    have ei : (((i' + 1 : Nat) : Int) - 1) = (i' : Int) := by omega
                    have hgo : (0 : Int) ≤ (i' : Int) := by omega
                    have hltI : (i' : Int) < (T.length : Int) := by omega
                    have hn : Hid (10 * v + x = val (T.drop i')) := Lib.hid (by omega)
                    cases hA
                    clear hcell2 e1 hle hnn e2 hsm hx hv hdig
                    rw [ei] at wj
                    rw [ei]
                    go_wp2
                    go_round
                    case rel => exact ⟨i', _, rfl, rfl, by omega, hn⟩
                    case measure => first | (simp [intOf]; done) | (simp [intOf]; omega)
        · obtain rfl : m = 0 := by omega
          have HE : Hid (norm 0 (sg neg (val q)) = (sg neg (val q), 0)) := Lib.hid rfl
          -- the digits that are left, without noughts at the end
          have HFF : Hid (fitZ (sg neg (val l)) s = if -999999999999999999 ≤ sg neg (val q) ∧ sg neg (val q) ≤ 999999999999999999 then some (sg neg (val q), 0) else none) := Lib.hid (by rw [HF.out, ← hq.out, HE.out])
          obtain ⟨cT, vT, lT, eT⟩ := trim_spec q HQ.out
          have tr := fun w (h : Rd w A1 q) => trim_any A1 q c1 w h hl1 (by omega)
          have HTR := Lib.hid tr
          have HRT : Hid (Rd (w0.alloc (.cells #[.bool neg, .slice A l.length c] 34)) A1 (trimL q)) := Lib.hid (by rw [eT]; exact hrd1.out.take _)
          have HV := Lib.hid vT
          have HCT := Lib.hid cT
          obtain ⟨T, hT⟩ : ∃ T, trimL q = T := ⟨_, rfl⟩
          rw [hT] at HTR HRT HV HCT lT
          have hTc : T.length ≤ c1 := by omega
          have hTcI : (T.length : Int) ≤ (c1 : Int) := by omega
          clear tr cT vT eT hT HF hq HE
          by_cases h18 : 18 < T.length
          · have h18I : (18 : Int) < (T.length : Int) := by omega
            have hbig : (1000000000000000000 : Int) ≤ val q := by
              rw [← HV.out]
              rcases HCT.out.2 with h | h
              · rw [h] at h18; simp at h18
              · have x : (10 : Nat) ^ 18 ≤ 10 ^ (T.length - 1) := Nat.pow_le_pow_right (by decide) (by omega)
                have e2 : (((10 : Nat) ^ (T.length - 1) : Nat) : Int) = 10 ^ (T.length - 1) := by simp
                have := Int.ofNat_le.2 x
                rw [← e2] at h
                have e3 : ((10 ^ 18 : Nat) : Int) = 1000000000000000000 := by decide
                omega
            have hnone : fitZ (sg neg (val l)) s = none := by rw [HFF.out, if_neg]; unfold sg; split <;> omega
            have h1 := HRN.out; have h2 := HRK.out; have h3 := HRO.out
            rw [hnone] at h1 h2 h3
            obtain rfl : (0 : Int) = rn := h1
            obtain rfl : (0 : Int) = rk := h2
            obtain rfl : false = ro := h3
            clear hnone hbig
            go_wp2_with (go_at_call 34; refine (HTR.out _ hrd1.out).mono ?_; rintro e w' ⟨rfl, rfl⟩)
            exact bodyPost_ret (v := .tuple #[.int .i64 0, .int .i64 0, .bool false]) (by simp [results, Tryd.results12, go_sem]) rfl ⟨rfl, ba (Below.refl _ _)⟩
          · have h18I : ¬ (18 : Int) < (T.length : Int) := by omega
            have hsmall : 0 ≤ val T ∧ val T < 1000000000000000000 := by
              have a := val_nonneg T HCT.out.1
              have b := val_lt T HCT.out.1
              have x : (10 : Nat) ^ T.length ≤ 10 ^ 18 := Nat.pow_le_pow_right (by decide) (by omega)
              have e2 : (((10 : Nat) ^ T.length : Nat) : Int) = 10 ^ T.length := by simp
              have := Int.ofNat_le.2 x
              rw [← e2] at b
              have e3 : ((10 ^ 18 : Nat) : Int) = 1000000000000000000 := by decide
              omega
            have hsome : fitZ (sg neg (val l)) s = some (sg neg (val T), 0) := by rw [HFF.out, ← HV.out, if_pos]; unfold sg; split <;> omega
            have h1 := HRN.out; have h2 := HRK.out; have h3 := HRO.out
            rw [hsome] at h1 h2 h3
            obtain rfl : sg neg (val T) = rn := h1
            obtain rfl : ((0 : Nat) : Int) = rk := h2
            obtain rfl : true = ro := h3
            have HSM := Lib.hid hsmall
            clear hsome hsmall
            go_wp2_with (go_at_call 34; refine (HTR.out _ hrd1.out).mono ?_; rintro e w' ⟨rfl, rfl⟩)
            go_loop [8, 9] (fun s8 s9 => ∃ (i' : Nat) (v : Int), s9 = .int .i64 ((i' : Int) - 1) ∧ s8 = .int .i64 v ∧ i' ≤ T.length ∧ Hid (v = val (T.drop i'))) (fun _ s9 => (intOf s9 + 1).toNat)
            case atStart => exact ⟨T.length, 0, rfl, rfl, Nat.le_refl _, Lib.hid (by rw [List.drop_length]; rfl)⟩
            case round =>
              obtain ⟨i', v, rfl, rfl, hi', hv⟩ := hrel
              cases i' with
              | zero =>
                have hgo : ¬ (0 : Int) ≤ (((0 : Nat) : Int) - 1) := by omega
                obtain rfl : v = val T := by rw [hv.out, List.drop_zero]
                clear hv
                have ha := HSM.out
                have w1 : IntKind.i64.wrap (-(val T)) = -(val T) := by rw [IntKind.wrap_i64]; omega
                clear ha
                cases neg with
                | false =>
                  go_wp2
                  exact bodyPost_ret (v := .tuple #[.int .i64 (val T), .int .i64 0, .bool true]) (by simp [results, Tryd.results12, go_sem]) rfl ⟨rfl, ba (Below.refl _ _)⟩
                | true =>
                  go_wp2
                  exact bodyPost_ret (v := .tuple #[.int .i64 (-(val T)), .int .i64 0, .bool true]) (by simp [results, Tryd.results12, go_sem]) rfl ⟨rfl, ba (Below.refl _ _)⟩
              | succ i' =>
                have hlt : i' < T.length := by omega
                have hT0 : ¬ T = [] := by intro e; rw [e] at hlt; simp at hlt
                obtain ⟨ad2, hA, hcell2⟩ := HRT.out hT0
                have hx2 := hcell2 i' _ (List.getElem?_eq_getElem hlt)
                have e1 : T.drop i' = T[i'] :: T.drop (i' + 1) := List.drop_eq_getElem_cons hlt
                have hdig : 0 ≤ T[i'] ∧ T[i'] ≤ 9 := HCT.out.1 _ (List.getElem_mem hlt)
                have hle : val (T.drop i') ≤ val T := by
                  rw [val_drop T HCT.out.1 i']
                  exact Int.ediv_le_self _ HSM.out.1
                have hnn := val_nonneg _ (isDig_drop HCT.out.1 (i' + 1))
                have e2 : val (T.drop i') = T[i'] + 10 * val (T.drop (i' + 1)) := by rw [e1]; rfl
                have hsm := HSM.out.2
                obtain ⟨x, hx⟩ : ∃ x, T[i'] = x := ⟨_, rfl⟩
                rw [hx] at hx2 e2 hdig
                rw [← hv.out] at e2 hnn
                have wm : IntKind.i64.wrap (10 * v) = 10 * v := by rw [IntKind.wrap_i64]; omega
                have wa : IntKind.i64.wrap (10 * v + x) = 10 * v + x := by rw [IntKind.wrap_i64]; omega
                have wj : IntKind.i64.wrap (((i' + 1 : Nat) : Int) - 1 - 1) = (i' : Int) - 1 := by rw [IntKind.wrap_i64]; omega
                have ei : (((i' + 1 : Nat) : Int) - 1) = (i' : Int) := by omega
                have hgo : (0 : Int) ≤ (i' : Int) := by omega
                have hltI : (i' : Int) < (T.length : Int) := by omega
                have hn : Hid (10 * v + x = val (T.drop i')) := Lib.hid (by omega)
                cases hA
                clear hcell2 e1 hle hnn e2 hsm hx hv hdig
                rw [ei] at wj
                rw [ei]
                go_wp2
                go_round
                case rel => exact ⟨i', _, rfl, rfl, by omega, hn⟩
                case measure => first | (simp [intOf]; done) | (simp [intOf]; omega)
end Go.Proofs
