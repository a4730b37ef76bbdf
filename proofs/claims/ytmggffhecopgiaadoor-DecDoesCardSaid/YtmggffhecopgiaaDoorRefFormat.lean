/- What the reference writes of a number. No condition beyond what the theorems state. -/
import Derived.Test.YtmggffhecopgiaaDoorFormatMath
import Derived.Test.YtmggffhecopgiaaDoorRowWords
import Derived.BigQuiet
import Derived.Deep.QuietTactic
namespace Go.Proofs
open Go.Shelf Go.RowKit Go.Proofs.Wide Go.Proofs.Dig
def lenAt (w : World) (g : Nat) : Nat := match w.cell? ⟨g, 1, none⟩ with
  | some (.slice _ n _) => n
  | _ => 0
def PadI (l : List Int) (k g : Nat) (w0 : World) (neg : Bool) (wx : World) : Prop := ∃ (j : Nat) (A : Option Addr) (c : Nat), (j = 0 ∨ l.length + j ≤ k + 1) ∧ Own wx g (.bool neg) (.slice A (l.length + j) c) ∧
  wx.ownsRow w0.heap.size 3 1 (.slice A (l.length + j) c) (l.length + j) (cellsD (l ++ List.replicate j 0)) ∧ (Value.slice A (l.length + j) c).ownBlock ≠ some g ∧ w0.heap.size ≤ g ∧ Below w0.heap.size w0 wx
theorem rd_of_row {w : World} {B : Nat} {A : Option Addr} {n c : Nat} {l : List Int} (h : w.ownsRow B 3 1 (.slice A n c) n (cellsD l)) (hn : n = l.length) : Rd w A l ∧ n ≤ c ∧ c ≤ 9223372036854775807 := by
  subst hn
  rcases h.2 with ⟨hv, hn⟩ | ⟨g, cap, cur, hv, _, _, hc, hm, _, _⟩
  · have e := List.eq_nil_of_length_eq_zero hn
    injection hv with h1 h2 h3
    subst e
    exact ⟨Rd.nil, by simp, by omega⟩
  · injection hv with h1 h2 h3
    subst h1; subst h3
    refine ⟨fun _ => ⟨_, rfl, fun j d hd => ?_⟩, hc, by unfold maxLen at hm; omega⟩
    refine h.cells (g := g) rfl j _ ?_
    unfold cellsD
    rw [List.getElem?_map, hd]; rfl
theorem ownsRow_far {w : World} {base size n : Nat} {e : TypeId} {v : Value} {xs : List Value} (h : w.ownsRow base e size v n xs) {p : Addr} (hp : v.ownBlock ≠ some p.block) (u : Value) : (w.setCell p u).ownsRow base e size v n xs :=
  ⟨h.1, h.2.elim .inl fun ⟨g, cap, cur, hv, hb, hh, r⟩ => .inr ⟨g, cap, cur, hv, hb, (Below.heap_setCell w p u g (fun e => hp (by rw [hv]; simp [Value.ownBlock, e]))).trans hh, r⟩⟩
theorem ownBlock_lt {w : World} {base size n : Nat} {e : TypeId} {v : Value} {xs : List Value} (h : w.ownsRow base e size v n xs) {k : Nat} (hk : v.ownBlock = some k) : base ≤ k ∧ k < w.heap.size := h.lt k hk
theorem below_far {w0 w w' : World} (h : Below w0.heap.size w0 w) {v : Value} (hg : w.grownBy w' v.ownBlock) (hv : ∀ k, v.ownBlock = some k → w0.heap.size ≤ k) : Below w0.heap.size w0 w' := h.grown hg h.size hv
theorem pad_step (l : List Int) (j : Nat) : cellsD (l ++ List.replicate j 0) ++ [.int .i64 0] = cellsD (l ++ List.replicate (j + 1) 0) := by
  unfold cellsD
  rw [show j + 1 = j + 1 from rfl, List.replicate_succ', ← List.append_assoc]; simp
theorem one_reads (w : World) (d : Int) : Reads (w.alloc (.cells #[.int .i64 d] 3)) (w.heap.size + 1) 1 (some ⟨w.heap.size, 0, none⟩) 1 [.int .i64 d] :=
  ⟨rfl, fun _ => ⟨_, rfl, by simp, cell_one_new _ _ _⟩⟩
theorem fmtN_len (P : List Int) (k : Nat) : ∀ j, (fmtN P k j).length ≤ j + 1 ∧ (j ≤ k → (fmtN P k j).length ≤ j) := by
  intro j
  induction j with
  | zero => exact ⟨by simp [fmtN], fun _ => by simp [fmtN]⟩
  | succ j ih =>
    by_cases h : j = k ∧ 0 < k
    · rw [fmtN, if_pos h]
      have := ih.2 (by omega)
      exact ⟨by simp; omega, fun _ => by omega⟩
    · rw [fmtN, if_neg h]
      exact ⟨by simp; exact ih.1, fun hj => by simp; exact ih.2 (by omega)⟩
theorem digs_len18 {u : Nat} (h : u ≤ 999999999999999999) : (digs u).length ≤ 18 := by
  by_cases h0 : u = 0
  · subst h0; rw [digs_zero]; simp
  · have h1 := (digs_val u).2.2 h0
    rw [(digs_val u).1] at h1
    rcases Nat.lt_or_ge 18 (digs u).length with h2 | h2
    · obtain ⟨e, he⟩ : ∃ e, (digs u).length - 1 = 18 + e := ⟨(digs u).length - 19, by omega⟩
      rw [he, Int.pow_add, show (10 : Int) ^ 18 = 1000000000000000000 by decide] at h1
      have := p10 e
      omega
    · exact h2
def FmI (P : List Int) (k g : Nat) (A : Option Addr) (c : Nat) (w0 : World) (neg : Bool) (s6 s7 : Value) (wx : World) : Prop := ∃ j : Nat, s6 = .string (ba' (fmtN P k j)) ∧ s7 = .int .i64 j ∧ j ≤ P.length ∧
  Own wx g (.bool neg) (.slice A P.length c) ∧ Rd wx A P ∧ Below w0.heap.size w0 wx
theorem digit_cut (d : Int) (h0 : 0 ≤ d) (h9 : d ≤ 9) : (⟨#[48, 49, 50, 51, 52, 53, 54, 55, 56, 57]⟩ : ByteArray).extract d.toNat (d + 1).toNat = ba' [chD d] := by
  have : d = 0 ∨ d = 1 ∨ d = 2 ∨ d = 3 ∨ d = 4 ∨ d = 5 ∨ d = 6 ∨ d = 7 ∨ d = 8 ∨ d = 9 := by omega
  rcases this with rfl | rfl | rfl | rfl | rfl | rfl | rfl | rfl | rfl | rfl <;> rfl
set_option maxRecDepth 100000 in
set_option maxHeartbeats 4000000 in
theorem refFormat_any (n : Int) (k : Nat) (h : RightZ n k) (w0 : World) : Calls Tryd.prog 17 #[.int .i64 n, .int .i64 k] w0 fun e w' => e = .returned (.string (ba' (formatL n k))) ∧ Below w0.heap.size w0 w' := by
  obtain ⟨i0, hi, hz0, hz1, hz2⟩ := info_parts int_info
  have hE := fmt_eq n k h
  have hd := (digs_val n.natAbs).2.1
  have hlen : (digs n.natAbs).length ≤ 18 := digs_len18 (by have := h.1; have := h.2.1; omega)
  have hk9 := h.2.2.1
  obtain ⟨l, hl⟩ : ∃ l, digs n.natAbs = l := ⟨_, rfl⟩
  have hn : InI n := (rz_inI h).1
  have OF := fun w => of_any n hn w
  rw [hl] at hE hd hlen OF
  have HOF := Lib.hid OF; have HE := Lib.hid hE; have HD := Lib.hid hd
  clear OF hE hd hl h hn
  go_enter Tryd.func17, Tryd.ntmps17
  go_wp2_with (go_at_call 13; refine (HOF.out _).mono ?_; rintro e w1 ⟨v, rfl, hown, hb1⟩; obtain ⟨A, c, rfl⟩ := own_slice hown)
  go_loopw [10] (fun _ wx => PadI l k w1.heap.size w0 (decide (n < 0)) wx) (fun _ wx => k + 1 - lenAt wx w1.heap.size)
  case atStart =>
    exact ⟨0, A, c, .inl rfl, Own.new_at rfl, by simpa using hown.alloc _, fun e => by have := (ownBlock_lt hown e).2; omega, hb1.size, ba hb1⟩
  case round =>
    obtain ⟨j, A', c', hj, O, hown', hne, hg, HB⟩ := hrel
    by_cases hlt : l.length + j ≤ k
    · have O' := Lib.hid O
      obtain ⟨_, _, _, _⟩ := O
      have L0 := O'.out.lt
      have hne' := Lib.hid hne
      have hltI : decide (((l.length + j : Nat) : Int) ≤ (k : Int)) = true := by simp; omega
      have hln : lenAt wr w1.heap.size = l.length + j := by unfold lenAt; simp [*]
      have HLN := Lib.hid hln
      clear hne hln
      go_wp2_with (at_builtin
                   refine wpList_append_any _ rfl (.tmp 16) (.tmp 17) 32 rfl w0.heap.size 3 i0 _ 1 8 Tryd.underlying32 hi hz0 hz1 hz2 rfl (by omega) (.slice A' (l.length + j) c') (l.length + j) _ rfl (hown'.alloc _) _ _ 1 1 [.int .i64 0] rfl (one_reads wr 0) (by intro u hu; simp at hu; subst hu; rfl) (by unfold maxLen; omega) (by omega) (by simp; have := HB.size; omega) ?_
                   intro v3 w3 hown3 hg3 hat3
                   have P1 := own_grown (O'.out.alloc _) hg3 (fun h => hne'.out h.symm)
                   have hb3 : Below w0.heap.size w0 w3 := below_far (ba HB) hg3 (fun q hq => (ownBlock_lt hown' hq).1)
                   obtain ⟨A3, c3, rfl⟩ := own_slice hown3
                   have hne3 : (Value.slice A3 (l.length + j + 1) c3).ownBlock ≠ some w1.heap.size := fun e => hat3.elim (fun h => hne'.out (h.symm.trans e)) (fun h => by rw [h] at e; injection e with e; simp at e; omega)
                   rw [pad_step] at hown3
                   have HN3 := Lib.hid hne3; have HOW3 := Lib.hid hown3
                   clear hne3 hg3 hat3 hown3
                   (have Q := P1; obtain ⟨_, _, _, _⟩ := Q))
      go_roundw
      case rel => exact ⟨j + 1, A3, c3, .inr (by omega), own_store1 P1 _, ownsRow_far HOW3.out HN3.out _, HN3.out, hg, bs hb3 hg⟩
      case measure =>
        have e1 := HLN.out
        have e2 : lenAt (w3.setCell ⟨w1.heap.size, 1, none⟩ (.slice A3 (l.length + j + 1) c3)) w1.heap.size = l.length + j + 1 := by
          unfold lenAt; rw [(own_store1 P1 _).2.1]
        rw [e1, e2]; omega
    · obtain ⟨P, hP⟩ : ∃ P, l ++ List.replicate j 0 = P := ⟨_, rfl⟩
      have hPl : l.length + j = P.length := by rw [← hP]; simp
      have hPk : k + 1 ≤ P.length := by omega
      have hPad : padD l k = P := by
        rw [← hP]; unfold padD
        rcases hj with rfl | hj
        · rw [show k + 1 - l.length = 0 by omega]
        · rw [show k + 1 - l.length = j by omega]
      rw [hPad] at HE
      have hdP : isDig P := by rw [← hP]; exact isDig_append HD.out (isDig_zeros j)
      rw [hP] at hown'
      obtain ⟨hrd, hPc, hc9⟩ := rd_of_row hown' hPl
      rw [hPl] at O hlt hPc
      have hP28 : P.length ≤ 28 := by rw [← hPl]; rcases hj with rfl | hj <;> omega
      clear hP hPl hPad hown' hne HD hj HOF hown hb1
      have O' := Lib.hid O
      obtain ⟨_, _, _, _⟩ := O
      have hltI : decide ((P.length : Int) ≤ (k : Int)) = false := by simp; omega
      have HRD := Lib.hid hrd; have HDP := Lib.hid hdP
      clear hrd hdP
      go_wp2
      go_loopw [6, 7] (fun s6 s7 wx => FmI P k w1.heap.size A' c' w0 (decide (n < 0)) s6 s7 wx) (fun _ s7 _ => P.length - (intOf s7).toNat)
      case atStart => exact ⟨0, rfl, rfl, Nat.zero_le _, O'.out, HRD.out, HB⟩
      case round =>
        obtain ⟨j, rfl, rfl, hj, O2, hrd, HB2⟩ := hrel
        by_cases hlt : j < P.length
        · have O2' := Lib.hid O2
          obtain ⟨_, _, _, _⟩ := O2
          have hltJ : decide ((j : Int) < (P.length : Int)) = true := by simp; omega
          obtain ⟨ad, rfl, hcell⟩ := hrd (by intro e; subst e; simp at hlt)
          have hx := hcell j _ (List.getElem?_eq_getElem hlt)
          have hgd : P.getD j 0 = P[j] := by rw [List.getD_eq_getElem?_getD, List.getElem?_eq_getElem hlt]; rfl
          obtain ⟨d0, d9⟩ := HDP.out _ (List.getElem_mem hlt)
          obtain ⟨d, hd⟩ : ∃ d, P[j] = d := ⟨_, rfl⟩
          rw [hd] at hx hgd d0 d9
          have hfl := (fmtN_len P k j).1
          have hcut := digit_cut d d0 d9
          have hw1 : IntKind.i64.wrap (d + 1) = d + 1 := by rw [IntKind.wrap_i64]; omega
          have HRD2 := Lib.hid hrd; have HGD := Lib.hid hgd
          clear hcell hrd hgd hd
          have hcase : (j = k ∧ 0 < k ∧ fmtN P k (j + 1) = chD d :: 46 :: fmtN P k j) ∨ (¬ j = k ∧ fmtN P k (j + 1) = chD d :: fmtN P k j) ∨ (j = 0 ∧ k = 0 ∧ fmtN P k (j + 1) = chD d :: fmtN P k j) := by
            rw [fmtN, HGD.out]
            by_cases e1 : j = k
            · by_cases e2 : 0 < k
              · exact .inl ⟨e1, e2, by rw [if_pos ⟨e1, e2⟩]⟩
              · exact .inr (.inr ⟨by omega, by omega, by rw [if_neg (by omega)]⟩)
            · exact .inr (.inl ⟨e1, by rw [if_neg (by omega)]⟩)
          obtain ⟨T, hT⟩ : ∃ T, fmtN P k (j + 1) = T := ⟨_, rfl⟩
          obtain ⟨S, hS⟩ : ∃ S, fmtN P k j = S := ⟨_, rfl⟩
          rw [hT, hS] at hcase
          rw [hS] at hfl
          have HT := Lib.hid hT
          rw [hS]
          clear hT hS
          rcases hcase with ⟨rfl, hk0, hTS⟩ | ⟨hjk, hTS⟩ | ⟨hj0, hk0, hTS⟩
          · have hb1 : ((j : Int) == (j : Int)) = true := by simp
            have hb2 : decide ((0 : Int) < (j : Int)) = true := by simp; omega
            have happ : ba' [chD d] ++ ba' (46 :: S) = ba' T := by rw [app_ba, hTS]; rfl
            have hs3 : (ba' S).size ≤ 30 := by rw [size_ba]; omega
            have hs2 : (ba' (46 :: S)).size ≤ 31 := by rw [size_ba]; first | omega | (simp; omega)
            have hs1 : (⟨#[46]⟩ : ByteArray) ++ ba' S = ba' (46 :: S) := app_ba [46] S
            have hx0 : (0 : Int) ≤ (j : Int) := by omega
            have HAPP := Lib.hid happ; have HCUT := Lib.hid hcut
            clear hTS hfl happ hcut
            go_wp2
            go_quiet (fail)
            go_wp2
            go_roundw
            case rel => exact ⟨j + 1, by rw [HT.out, ← HAPP.out, ← HCUT.out], by go_num, by omega, O2'.out.drewN _, HRD2.out.call (bd (Below.refl _ _)), bd HB2⟩
            case measure => simp [intOf]; omega
          · have hb1 : ((j : Int) == (k : Int)) = false := by simp; omega
            have happ : ba' [chD d] ++ ba' (S) = ba' T := by rw [app_ba, hTS]; rfl
            have hs3 : (ba' S).size ≤ 30 := by rw [size_ba]; omega
            have hs2 : (ba' (S)).size ≤ 31 := by rw [size_ba]; first | omega | (simp; omega)
            have hs1 : (⟨#[46]⟩ : ByteArray) ++ ba' S = ba' (46 :: S) := app_ba [46] S
            have hx0 : (0 : Int) ≤ (j : Int) := by omega
            have HAPP := Lib.hid happ; have HCUT := Lib.hid hcut
            clear hTS hfl happ hcut
            go_wp2
            go_quiet (fail)
            go_wp2
            go_roundw
            case rel => exact ⟨j + 1, by rw [HT.out, ← HAPP.out, ← HCUT.out], by go_num, by omega, O2'.out.drewN _, HRD2.out.call (bd (Below.refl _ _)), bd HB2⟩
            case measure => simp [intOf]; omega
          · obtain rfl : j = k := by omega
            have hb1 : ((j : Int) == (j : Int)) = true := by simp
            have hb2 : decide (0 < j) = false := by simp; omega
            have hb3 : ¬ 0 < j := by omega
            have happ : ba' [chD d] ++ ba' (S) = ba' T := by rw [app_ba, hTS]; rfl
            have hs3 : (ba' S).size ≤ 30 := by rw [size_ba]; omega
            have hs2 : (ba' (S)).size ≤ 31 := by rw [size_ba]; first | omega | (simp; omega)
            have hs1 : (⟨#[46]⟩ : ByteArray) ++ ba' S = ba' (46 :: S) := app_ba [46] S
            have hx0 : (0 : Int) ≤ (j : Int) := by omega
            have HJ := Lib.hid hj0; have HK := Lib.hid hk0
            clear hj0 hk0
            have HAPP := Lib.hid happ; have HCUT := Lib.hid hcut
            clear hTS hfl happ hcut
            go_wp2
            go_quiet (fail)
            go_wp2
            go_roundw
            case rel => exact ⟨j + 1, by rw [HT.out, ← HAPP.out, ← HCUT.out], by go_num, by omega, O2'.out.drewN _, HRD2.out.call (bd (Below.refl _ _)), bd HB2⟩
            case measure => simp [intOf]; omega
        · obtain rfl : j = P.length := by omega
          have hT : fmtN P k P.length = fmtN P k P.length := rfl
          have hfl := (fmtN_len P k P.length).1
          obtain ⟨S, hS⟩ : ∃ S, fmtN P k P.length = S := ⟨_, rfl⟩
          rw [hS] at hfl HE ⊢
          clear hT hS
          have hltJ : decide ((P.length : Int) < (P.length : Int)) = false := by simp
          obtain ⟨_, _, _, _⟩ := O2
          have hs3 : (ba' S).size ≤ 30 := by rw [size_ba]; omega
          clear hrd
          by_cases hn : n < 0
          · have hnb : decide (n < 0) = true := by simpa using hn
            have happ : (⟨#[45]⟩ : ByteArray) ++ ba' S = ba' (45 :: S) := app_ba [45] S
            have hF : 45 :: S = formatL n k := by rw [← HE.out]; unfold sgn; rw [if_pos hn]; rfl
            have HF := Lib.hid hF; have HAPP := Lib.hid happ
            clear hF happ
            go_wp2
            go_ret
            exact ⟨(show Ending.returned (.string ((⟨#[45]⟩ : ByteArray) ++ ba' S)) = _ by rw [HAPP.out, HF.out]), HB2⟩
          · have hnb : decide (n < 0) = false := by simpa using hn
            have hF : S = formatL n k := by rw [← HE.out]; unfold sgn; rw [if_neg hn]; rfl
            have HF := Lib.hid hF
            clear hF
            go_wp2
            go_ret
            exact ⟨(show Ending.returned (.string (ba' S)) = _ by rw [HF.out]), HB2⟩
end Go.Proofs
