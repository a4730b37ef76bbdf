/- The statement LexApart: its walk. No condition beyond what the theorems state. -/
import Derived.Test.YtolkfhiominjbaaGreatDoorLwWords
import Derived.Test.YtolkfhiominjbaaGreatDoorWide
import Derived.Test.YtolkfhiominjbaaGreatDoorRegC
namespace Go.Proofs.YtolkfhiominjbaaGreatDoor
open Go.RowKit Go.Lib
set_option maxRecDepth 100000
set_option maxHeartbeats 16000000
theorem chain_len (s : List UInt8) : ∀ (M : List Tk) (p : Nat), Chain s p M → p ≤ s.length → p + M.length ≤ s.length
  | [], p, _, h => by simpa using h
  | t :: M, p, h, _ => by
    obtain ⟨_, h1, h2, h3, _, _, _, h8⟩ := h
    have := chain_len s M t.b h8 h3
    simp only [List.length_cons]
    omega
theorem allR_some {x : List UInt8} {L : List Tk} (hr : allR x = some L) : okT x 0 = true ∧ allF x = some L ∧ allE x = 0 := by
  unfold allR at hr
  split at hr
  · rename_i hok
    refine ⟨hok, hr, ?_⟩
    unfold allE
    rw [if_pos hok, hr]
    rfl
  · cases hr
theorem allR_none {x : List UInt8} (hr : allR x = none) : allE x ≠ 0 := by
  unfold allR at hr
  unfold allE
  split at hr
  · rename_i hok
    rw [if_pos hok, hr]
    decide
  · rename_i hok
    rw [if_neg hok]
    decide
theorem cellsK_four : ∀ (M : List Tk) (j : Nat) (t : Tk), M[j]? = some t → (cellsK M)[j * 4]? = some (.int .i64 (t.k : Nat)) ∧ (cellsK M)[j * 4 + 1]? = some (.string (ba' t.x))
  | [], j, t, h => by simp at h
  | q :: M, 0, t, h => by
    simp only [List.getElem?_cons_zero, Option.some.injEq] at h
    subst h
    exact ⟨rfl, rfl⟩
  | q :: M, j + 1, t, h => by
    have := cellsK_four M j t (by simpa using h)
    have e : cellsK (q :: M) = [.int .i64 (q.k : Nat), .string (ba' q.x), .int .i64 (q.a : Nat), .int .i64 (q.b : Nat)] ++ cellsK M := by unfold cellsK; rw [List.flatMap_cons]
    rw [e, List.getElem?_append_right (by simp; omega), List.getElem?_append_right (by simp; omega)]
    simp only [List.length_cons, List.length_nil]
    rw [show (j + 1) * 4 - 4 = j * 4 by omega, show (j + 1) * 4 + 1 - 4 = j * 4 + 1 by omega]
    exact this
/-- What is known of the words so far. -/
def Wds (ws : List (List UInt8)) : Prop := ∀ x ∈ ws, validX x = true ∧ ∃ k y, WordIs x k y
theorem apart_walk (s r : List UInt8) (w : World) (hs : s.length ≤ maxLen) (_hr : r.length ≤ maxLen) (hE : Env w) :
    Calls Tryz.prog 4 #[.string (ba' s), .string (ba' r)] w fun e w' => e = .returned (.bool true) ∧ Below w.heap.size w w' := by
  have HAW : Hid (∀ W1 : World, Below w.heap.size w W1 → Calls Tryz.prog 6 #[] W1 fun e w' => e = .returned (.bool true) ∧ Below W1.heap.size W1 w') := Lib.hid fun W1 h => by
    have hE1 := hE.below h
    obtain ⟨h1, ⟨v, hv⟩, _⟩ := id hE1
    exact awake_any W1 h1 v hv
  have HAL : Hid (∀ (x : List UInt8) (W1 : World), x.length ≤ maxLen → Below w.heap.size w W1 → Calls Tryz.prog 10 #[.string (ba' x)] W1 fun e w' => LPost W1 (allR x) (allE x) e w' ∧ Below W1.heap.size W1 w') := Lib.hid fun x W1 hx h => All_any x hx W1 (hE.below h)
  clear hE
  have s1 : (ba' s).size = s.length := size_ba s
  have r1 : (ba' r).size = r.length := size_ba r
  go_enter Tryz.func4, Tryz.ntmps4
  go_wp2_with fail
  refine (HAW.out w (Below.refl _ _)).mono ?_
  rintro e w1 ⟨rfl, hb1⟩
  have HB1 := Lib.hid hb1
  clear hb1
  by_cases h1 : 3000 < s.length
  · have g0 : decide ((s.length : Int) > 3000) = true := by simp; omega
    have g0' : decide ((3000 : Int) < (s.length : Int)) = true := by simp; omega
    have g0'' : decide (3000 < s.length) = true := by simpa using h1
    go_wp2_with fail
    refine (HAW.out w1 HB1.out).mono ?_
    rintro e w2 ⟨rfl, hb2⟩
    have HB2 := Lib.hid (bt HB1.out hb2)
    clear hb2
    go_wp2
    go_ret
    exact ⟨rfl, HB2.out⟩
  have g0 : decide ((s.length : Int) > 3000) = false := by simp; omega
  have g0' : decide ((3000 : Int) < (s.length : Int)) = false := by simp; omega
  have g0'' : decide (3000 < s.length) = false := by simp; omega
  by_cases h2 : 50 < r.length
  · have q0 : decide ((r.length : Int) > 50) = true := by simp; omega
    have q0' : decide ((50 : Int) < (r.length : Int)) = true := by simp; omega
    have q0'' : decide (50 < r.length) = true := by simpa using h2
    go_wp2_with fail
    refine (HAW.out w1 HB1.out).mono ?_
    rintro e w2 ⟨rfl, hb2⟩
    have HB2 := Lib.hid (bt HB1.out hb2)
    clear hb2
    go_wp2
    go_ret
    exact ⟨rfl, HB2.out⟩
  have q0 : decide ((r.length : Int) > 50) = false := by simp; omega
  have q0' : decide ((50 : Int) < (r.length : Int)) = false := by simp; omega
  have q0'' : decide (50 < r.length) = false := by simp; omega
  have hal := HAL.out s w1 hs HB1.out
  cases hR : allR s with
  | none =>
    have hae := allR_none hR
    obtain ⟨e0, he0⟩ : ∃ e0, allE s = e0 := ⟨_, rfl⟩
    rw [hR, he0] at hal
    rw [he0] at hae
    have k1 : (e0 != 0) = true := by simpa using hae
    have k2 : decide (¬ e0 = 0) = true := by simpa using hae
    have HA := Lib.hid hal
    clear hal he0 hR
    go_wp2_with fail
    refine HA.out.mono ?_
    rintro e w3 ⟨he, hb3⟩
    obtain rfl : e = _ := he
    have HB3 : Hid (Below w.heap.size w w3) := Lib.hid (bt HB1.out hb3)
    clear hb3
    go_wp2
    go_ret
    exact ⟨rfl, HB3.out⟩
  | some L =>
    obtain ⟨hok, hF, hz⟩ := allR_some hR
    have hch : Chain s 0 L := by
      unfold okT at hok
      simp only [Bool.and_eq_true, decide_eq_true_eq] at hok
      obtain ⟨M, e, hM⟩ := all_is s (s.length + 2) 0 [] L (Nat.zero_le _) hok.2 hF
      rw [List.nil_append] at e
      rw [e]
      exact hM
    have hLn := chain_len s L 0 hch (Nat.zero_le _)
    rw [hR, hz] at hal
    have HA := Lib.hid hal
    have HCH := Lib.hid hch
    clear hal hz hok hF hR hch
    go_wp2_with fail
    refine HA.out.mono ?_
    rintro e w3 ⟨⟨A3, c3, base, rfl, hbase, hown⟩, hb3⟩
    have HB3 : Hid (Below w.heap.size w w3) := Lib.hid (bt HB1.out hb3)
    obtain ⟨n, hn⟩ : ∃ n, L.length = n := ⟨_, rfl⟩
    have HN := Lib.hid hn
    rw [hn] at hLn hown ⊢
    have HO := Lib.hid hown
    clear hb3 hown hbase hn
    go_wp2
    go_loopw [9] (fun s9 wx => ∃ i : Nat, s9 = .int .i64 (i : Nat) ∧ i ≤ r.length ∧ Hid (∀ c ∈ r.take i, remB c) ∧ Below w3.heap.size w3 wx) (fun s9 _ => r.length - (intOf s9).toNat)
    case atStart => exact ⟨0, rfl, Nat.zero_le _, Lib.hid (by simp), Below.refl _ _⟩
    case round =>
      obtain ⟨i, rfl, hi, HRM, hB⟩ := hrel
      have HB := Lib.hid hB
      have HBW := Lib.hid (bt HB3.out hB)
      by_cases hlt : i < r.length
      · have g1 : decide ((i : Int) < (r.length : Int)) = true := by simp; omega
        have g1' : decide (i < r.length) = true := by simpa using hlt
        obtain ⟨c, hc⟩ : ∃ c, r[i]? = some c := ⟨_, List.getElem?_eq_getElem hlt⟩
        have hlt' : i < (ba' r).size := by omega
        have ec : (ba' r)[i]'hlt' = c := by
          have h := (List.getElem?_eq_some_iff.1 hc).2
          exact h
        go_wp2
        case roundEnd =>
          rename_i q1 q2 q3 q4
          have hcB : remB c := ⟨fun e => q1 (by rw [e]; rfl), fun e => q2 (by rw [e]; rfl), by omega, by omega⟩
          have htk : r.take (i + 1) = r.take i ++ [c] := by rw [List.take_add_one, hc]; rfl
          go_roundw
          case rel => exact ⟨i + 1, by go_num, by omega, Lib.hid fun y hy => by
            rw [htk] at hy
            rcases List.mem_append.1 hy with hy | hy
            · exact HRM.out y hy
            · rw [List.mem_singleton] at hy
              rw [hy]
              exact hcB, HB.out⟩
          case measure => simp [intOf]; omega
        all_goals (go_ret; exact ⟨rfl, HBW.out⟩)
      · obtain rfl : i = r.length := by omega
        have HRR : Hid (∀ c ∈ r, remB c) := Lib.hid fun c hc => HRM.out c (by rw [List.take_length]; exact hc)
        clear hi hlt HRM
        go_wp2
        go_loopw [7, 8, 10] (fun s7 s8 s10 wx => ∃ (i p : Nat) (ws : List (List UInt8)), s7 = .int .i64 (p : Nat) ∧ s8 = .string (ba' (wideT r ws)) ∧ s10 = .int .i64 (i : Nat) ∧ i ≤ n ∧ i ≤ p ∧ p ≤ s.length ∧ (wideT r ws).length ≤ 3058 * i ∧ Hid (Chain s p (L.drop i)) ∧ Hid (Wds ws) ∧ Hid (ws.length = i) ∧ Hid (∀ (j : Nat) (x : List UInt8), ws[j]? = some x → ∃ t : Tk, L[j]? = some t ∧ tokF x = (t.k, t.x, x.length)) ∧ Below w3.heap.size w3 wx) (fun _ _ s10 _ => n - (intOf s10).toNat)
        case atStart => exact ⟨0, 0, [], rfl, rfl, rfl, Nat.zero_le _, Nat.zero_le _, Nat.zero_le _, Nat.le_refl _, HCH, Lib.hid (fun x hx => by cases hx), Lib.hid rfl, Lib.hid (fun j x h => by simp at h), HB.out⟩
        case round =>
          obtain ⟨i, p, ws, rfl, rfl, rfl, hi, hip, hps, hwl0, HC, HWD, HWL, HWT, hB2⟩ := hrel
          obtain ⟨V, hV⟩ : ∃ V, wideT r ws = V := ⟨_, rfl⟩
          have HVE := Lib.hid hV
          rw [hV] at hwl0 ⊢
          clear hV
          have HB2 := Lib.hid hB2
          have HBW2 := Lib.hid (bt HB3.out hB2)
          have sV : (ba' V).size = V.length := size_ba V
          by_cases hil : i < n
          · have g3 : decide ((i : Int) < (n : Int)) = true := by simp; omega
            have g3' : decide (i < n) = true := by simpa using hil
            obtain ⟨t, ht⟩ : ∃ t, L[i]? = some t := ⟨_, List.getElem?_eq_getElem (by rw [HN.out]; exact hil)⟩
            have HT := Lib.hid ht
            obtain ⟨hi', et⟩ := List.getElem?_eq_some_iff.1 ht
            have hch := HC.out
            rw [List.drop_eq_getElem_cons hi', et] at hch
            obtain ⟨hk, hpa, hab, hbs, hwl, hwi, hwv, hch'⟩ := hch
            obtain ⟨ka, kb⟩ := cellsK_four L i t ht
            obtain ⟨kc, kd⟩ := cellsK_at L i t ht
            obtain ⟨W, hW⟩ : ∃ W, wordOf s t = W := ⟨_, rfl⟩
            have hext : (ba' s).extract t.a t.b = ba' W := by rw [cut_mid, ← hW]; rfl
            rw [hW] at hwl hwi hwv
            obtain ⟨k, x, a, b⟩ := t
            simp only at ka kb kc kd hpa hab hbs hwl hwi hwv hch' hext
            obtain ⟨g, rfl, hg0, hg1, hgx⟩ := row_cells4 HO.out (by omega)
            have c0 := (hB2.cell (p := ⟨g, i * 4, none⟩) hg1).trans (hgx _ _ ka)
            have c1 := (hB2.cell (p := ⟨g, i * 4 + 1, none⟩) hg1).trans (hgx _ _ kb)
            have c2 := (hB2.cell (p := ⟨g, i * 4 + 2, none⟩) hg1).trans (hgx _ _ kc)
            have c3' := (hB2.cell (p := ⟨g, i * 4 + 3, none⟩) hg1).trans (hgx _ _ kd)
            have sW : (ba' W).size = W.length := size_ba W
            have hWn : W.length = b - a := hwl
            obtain ⟨hw1, hw2⟩ := word_all hwi hwv (by omega)
            have HCN := Lib.hid hch'
            have HWI := Lib.hid hwi
            have HWV := Lib.hid hwv
            have htk := hwi.2.2.2.1
            have HTK := Lib.hid htk
            have HALW : Hid (∀ W1, Below w.heap.size w W1 → Calls Tryz.prog 10 #[.string (ba' W)] W1 fun e w' => LPost W1 (some [⟨k, x, 0, W.length⟩]) 0 e w' ∧ Below W1.heap.size W1 w') := Lib.hid fun W1 h => by
              have := HAL.out W W1 (by unfold maxLen; omega) h
              rw [hw1, hw2] at this
              exact this
            clear hgx ka kb kc kd hch' hwi hwv hwl hw1 hw2 hW htk et hi' ht hk
            have e1 : decide ((a : Int) < (p : Int)) = false := by simp; omega
            have e1' : decide (a < p) = false := by simp; omega
            have e2 : decide ((b : Int) ≤ (a : Int)) = false := by simp; omega
            have e2' : decide (b ≤ a) = false := by simp; omega
            have e3 : decide ((s.length : Int) < (b : Int)) = false := by simp; omega
            have e3' : decide (s.length < b) = false := by simp; omega
            go_wp2_with fail
            refine (HALW.out _ (ba HBW2.out)).mono ?_
            rintro e w4 ⟨⟨A4, c4, base4, rfl, hbase4, hown4⟩, hb4⟩
            simp only [List.length_cons, List.length_nil, Nat.zero_add] at hown4 ⊢
            obtain ⟨g4, rfl, hg40, hg41, hgx4⟩ := row_cells4 hown4 (by decide)
            have HB4 : Hid (Below w3.heap.size w3 w4) := Lib.hid (bt (ba HB2.out) hb4)
            have HSZ : Hid (wr.heap.size < w4.heap.size) := Lib.hid (by have := hb4.size; simp at this; omega)
            have d0 : w4.cell? ⟨g4, 0, none⟩ = some (.int .i64 (k : Nat)) := hgx4 0 _ rfl
            have d1 : w4.cell? ⟨g4, 1, none⟩ = some (.string (ba' x)) := hgx4 1 _ rfl
            have d2 : w4.cell? ⟨g4, 2, none⟩ = some (.int .i64 0) := hgx4 2 _ rfl
            have d3 : w4.cell? ⟨g4, 3, none⟩ = some (.int .i64 (W.length : Nat)) := hgx4 3 _ rfl
            have f0 : w4.cell? ⟨wr.heap.size, 0, none⟩ = some (.int .i64 (k : Nat)) := (hb4.cell (p := ⟨wr.heap.size, 0, none⟩) (by simp)).trans (by simp)
            have f1 : w4.cell? ⟨wr.heap.size, 1, none⟩ = some (.string (ba' x)) := (hb4.cell (p := ⟨wr.heap.size, 1, none⟩) (by simp)).trans (by simp)
            have f2 : w4.cell? ⟨wr.heap.size, 2, none⟩ = some (.int .i64 (a : Nat)) := (hb4.cell (p := ⟨wr.heap.size, 2, none⟩) (by simp)).trans (by simp)
            have f3 : w4.cell? ⟨wr.heap.size, 3, none⟩ = some (.int .i64 (b : Nat)) := (hb4.cell (p := ⟨wr.heap.size, 3, none⟩) (by simp)).trans (by simp)
            have hsub : ((b : Nat) : Int) - ((a : Nat) : Int) = ((W.length : Nat) : Int) := by omega
            have hwr : IntKind.i64.wrap ((W.length : Nat) : Int) = ((W.length : Nat) : Int) := by rw [IntKind.wrap_i64]; omega
            clear hb4 hgx4 hown4 hbase4 c0 c1 c2 c3'
            go_upto_region 20 with fail
            go_cut [149] (fun s149 wx => s149 = .bool false ∧ Below w4.heap.size w4 wx)
            case first =>
              rename_i J K' hJ hK'
              refine V20_region g4 wr.heap.size k a b W.length c4 x _ _ _ _ _ _ _ _ _ _ _ _ _ _ _ _ _ _ _ _ _ _ _ _ _ _ _ _ _ _ _ _ _ _ _ _ _ _ _ _ _ _ _ _ _ _ _ _ _ _ _ _ _ _ _ _ _ _ _ _ _ _ _ _ _ _ _ _ _ _ _ _ _ _ _ _ _ _ _ _ _ _ _ _ _ _ _ _ _ _ _ _ _ _ _ _ _ _ _ _ _ _ _ _ _ _ _ _ _ _ _ _ _ _ _ _ _ _ _ _ _ _ _ _ _ _ _ _ _ _ _ _ _ _ _ _ _ _ _ _ _ _ _ _ _ _ _ _ _ _ _ _ _ _ _ _ _ _ _ _ _ _ _ _ _ _ _ _ _ _ _ _ _ _ _ _ _ _ _ _ _ _ _ _ _ _ _ _ _ _ _ _ _ _ _ _ _ _ _ _ _ _ _ _ _ _ _ _ _ w4 w4 _ (Below.refl _ _) d0 d1 d2 d3 f0 f1 f2 f3 hsub hwr ?_
              intro w' _ hb
              refine hK' _ _ (Met.intro (hJ _ _ ?_))
              (repeat apply Exists.intro)
              refine ⟨?_, rfl⟩
              exact ⟨rfl, hb⟩
            case rest =>
              obtain ⟨rfl, hbc⟩ := hcut
              have HBC := Lib.hid (bt HB4.out hbc)
              have n2 := (hbc.cell (p := ⟨wr.heap.size, 2, none⟩) HSZ.out).trans f2
              have n3 := (hbc.cell (p := ⟨wr.heap.size, 3, none⟩) HSZ.out).trans f3
              have t1 : ¬ (9223372036854775807 < V.length + 4) := by omega
              have t2 : ¬ (9223372036854775807 < V.length + 4 + r.length) := by omega
              have t3 : ¬ (9223372036854775807 < V.length + 4 + r.length + 4) := by omega
              have t4 : ¬ (9223372036854775807 < V.length + 4 + r.length + 4 + W.length) := by omega
              have HAP : Hid (ba' V ++ ⟨#[10, 40, 58, 32]⟩ ++ ba' r ++ ⟨#[32, 58, 41, 32]⟩ ++ ba' W = ba' (wideT r (ws ++ [W]))) := Lib.hid (by
                show ba' V ++ ba' [10, 40, 58, 32] ++ ba' r ++ ba' [32, 58, 41, 32] ++ ba' W = _
                rw [ba_app, ba_app, ba_app, ba_app, wide_snoc, HVE.out]
                congr 1
                simp [sepR])
              have hlen2 : (wideT r (ws ++ [W])).length = V.length + (r.length + 8) + W.length := by
                rw [wide_snoc, HVE.out]
                simp [sepR]
                omega
              clear hbc d0 d1 d2 d3 f0 f1 f2 f3 hsub hwr
              go_wp2
              go_roundw
              case rel => exact ⟨i + 1, b, ws ++ [W], rfl, by rw [← HAP.out], by go_num, by omega, by omega, by omega, by rw [hlen2]; omega, HCN, Lib.hid fun y hy => by
                rcases List.mem_append.1 hy with hy | hy
                · exact HWD.out y hy
                · rw [List.mem_singleton] at hy
                  rw [hy]
                  exact ⟨HWV.out, _, _, HWI.out⟩, Lib.hid (by rw [List.length_append, HWL.out]; rfl), Lib.hid fun j y hy => by
                by_cases hj : j < i
                · rw [List.getElem?_append_left (by rw [HWL.out]; exact hj)] at hy
                  exact HWT.out j y hy
                · rw [List.getElem?_append_right (by rw [HWL.out]; omega), HWL.out] at hy
                  obtain ⟨q, hq⟩ : ∃ q, j = i + q := ⟨j - i, by omega⟩
                  subst hq
                  rw [Nat.add_sub_cancel_left] at hy
                  rcases q with _ | q
                  · simp only [List.getElem?_cons_zero, Option.some.injEq] at hy
                    subst hy
                    exact ⟨_, HT.out, HTK.out⟩
                  · simp at hy, HBC.out⟩
              case measure => simp [intOf]; omega
          · obtain rfl : i = n := by omega
            clear HC HCH
            by_cases h64 : 65536 ≤ V.length
            · have m1 : decide ((65536 : Int) ≤ (V.length : Int)) = true := by simp; omega
              have m1' : decide (65536 ≤ V.length) = true := by simpa using h64
              have m2 : decide ((V.length : Int) ≥ 65536) = true := by simp; omega
              go_wp2
              go_ret
              exact ⟨rfl, HBW2.out⟩
            · have m1 : decide ((65536 : Int) ≤ (V.length : Int)) = false := by simp; omega
              have m1' : decide (65536 ≤ V.length) = false := by simp; omega
              have m2 : decide ((V.length : Int) ≥ 65536) = false := by simp; omega
              obtain ⟨M, hM1, hM2, hM3, hM4⟩ := wide_all r ws HRR.out (by rw [HVE.out]; omega) (fun y hy => HWD.out y hy)
              rw [HVE.out] at hM1 hM2
              have hcat : ba' V ++ ⟨#[32]⟩ = ba' (V ++ [32]) := by
                show ba' V ++ ba' [32] = _
                rw [ba_app]
              have hal := HAL.out (V ++ [32]) wr (by rw [List.length_append]; simp only [List.length_cons, List.length_nil]; unfold maxLen; omega) HBW2.out
              rw [hM1, hM2] at hal
              have HA2 := Lib.hid hal
              have HMN : Hid (M.length = i) := Lib.hid (hM3.trans HWL.out)
              have HEQ : Hid (∀ (j : Nat), j < i → ∃ t t' : Tk, M[j]? = some t ∧ L[j]? = some t' ∧ t.k = t'.k ∧ t.x = t'.x) := Lib.hid fun j hj => by
                obtain ⟨y, hy⟩ : ∃ y, ws[j]? = some y := ⟨_, List.getElem?_eq_getElem (by rw [HWL.out]; exact hj)⟩
                obtain ⟨t, h1, h2⟩ := hM4 j y hy
                obtain ⟨t', h3, h4⟩ := HWT.out j y hy
                rw [h2] at h4
                simp only [Prod.mk.injEq] at h4
                exact ⟨t, t', h1, h3, h4.1, h4.2.1⟩
              have t1 : ¬ (9223372036854775807 < V.length + 1) := by omega
              clear hal hM1 hM2 hM3 hM4 HWD HWT
              go_wp2_with fail
              refine HA2.out.mono ?_
              rintro e w5 ⟨⟨A5, c5, base5, rfl, hbase5, hown5⟩, hb5⟩
              rw [HMN.out] at hown5 ⊢
              have HO5 := Lib.hid hown5
              have HB5 : Hid (Below w3.heap.size w3 w5) := Lib.hid (bt HB2.out hb5)
              clear hb5 hown5 hbase5
              go_wp2
              go_loopw [16] (fun s16 wx => ∃ j : Nat, s16 = .int .i64 (j : Nat) ∧ j ≤ i ∧ Below w5.heap.size w5 wx) (fun s16 _ => i - (intOf s16).toNat)
              case atStart => exact ⟨0, rfl, Nat.zero_le _, Below.refl _ _⟩
              case round =>
                obtain ⟨j, rfl, hj, hB6⟩ := hrel
                have HB6 := Lib.hid hB6
                have HB36 := Lib.hid (bt HB5.out hB6)
                have HBW6 := Lib.hid (bt HB3.out HB36.out)
                by_cases hjl : j < i
                · have g5 : decide ((j : Int) < (i : Int)) = true := by simp; omega
                  have g5' : decide (j < i) = true := by simpa using hjl
                  obtain ⟨t, t', h1, h2, h3, h4⟩ := HEQ.out j hjl
                  obtain ⟨ka, kb⟩ := cellsK_four M j t h1
                  obtain ⟨kc, kd⟩ := cellsK_four L j t' h2
                  obtain ⟨g, rfl, hg0, hg1, hgx⟩ := row_cells4 HO.out (by omega)
                  obtain ⟨gm, rfl, hg50, hg51, hgx5⟩ := row_cells4 HO5.out (by omega)
                  have c0 := (hB6.cell (p := ⟨gm, j * 4, none⟩) hg51).trans (hgx5 _ _ ka)
                  have c1 := (hB6.cell (p := ⟨gm, j * 4 + 1, none⟩) hg51).trans (hgx5 _ _ kb)
                  have c2 := (HB36.out.cell (p := ⟨g, j * 4, none⟩) hg1).trans (hgx _ _ kc)
                  have c3' := (HB36.out.cell (p := ⟨g, j * 4 + 1, none⟩) hg1).trans (hgx _ _ kd)
                  rw [← h3] at c2
                  rw [← h4] at c3'
                  obtain ⟨k, x, a, b⟩ := t
                  simp only at c0 c1 c2 c3'
                  clear hgx hgx5 ka kb kc kd h1 h2 h3 h4
                  go_upto_region 32 with fail
                  go_cut [211] (fun s211 wx => s211 = .bool false ∧ Below wr.heap.size wr wx)
                  case first =>
                    rename_i J K' hJ hK'
                    refine V32_region g gm i j k c5 c3 x _ _ _ _ _ _ _ _ _ _ _ _ _ _ _ _ _ _ _ _ _ _ _ _ _ _ _ _ _ _ _ _ _ _ _ _ _ _ _ _ _ _ _ _ _ _ _ _ _ _ _ _ _ _ _ _ _ _ _ _ _ _ _ _ _ _ _ _ _ _ _ _ _ _ _ _ _ _ _ _ _ _ _ _ _ _ _ _ _ _ _ _ _ _ _ _ _ _ _ _ _ _ _ _ _ _ _ _ _ _ _ _ _ _ _ _ _ _ _ _ _ _ _ _ _ _ _ _ _ _ _ _ _ _ _ _ _ _ _ _ _ _ _ _ _ _ _ _ _ _ _ _ _ _ _ _ _ _ _ _ _ _ _ _ _ _ _ _ _ _ _ _ _ _ _ _ _ _ _ _ _ _ _ _ _ _ _ _ _ _ _ _ _ _ _ _ _ _ _ _ _ _ _ _ _ _ _ _ _ wr wr _ (Below.refl _ _) c0 c1 c2 c3' hjl ?_
                    intro w' _ hb
                    refine hK' _ _ (Met.intro (hJ _ _ ?_))
                    (repeat apply Exists.intro)
                    refine ⟨?_, rfl⟩
                    exact ⟨rfl, hb⟩
                  case rest =>
                    obtain ⟨rfl, hbc⟩ := hcut
                    have HBC := Lib.hid (bt HB6.out hbc)
                    clear hbc c0 c1 c2 c3'
                    go_wp2
                    go_roundw
                    case rel => exact ⟨j + 1, by go_num, by omega, HBC.out⟩
                    case measure => simp [intOf]; omega
                · obtain rfl : j = i := by omega
                  go_wp2
                  go_ret
                  exact ⟨rfl, HBW6.out⟩
end Go.Proofs.YtolkfhiominjbaaGreatDoor
