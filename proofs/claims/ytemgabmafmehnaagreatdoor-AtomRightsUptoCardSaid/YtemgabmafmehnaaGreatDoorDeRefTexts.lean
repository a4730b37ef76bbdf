/- The reference reads and writes numbers. No condition beyond what the theorems state. -/
import Derived.Test.YtemgabmafmehnaaGreatDoorDeRefs
import Derived.Test.YtemgabmafmehnaaGreatDoorDeMath
import Derived.BigQuiet
import Derived.Deep.QuietTactic
namespace Go.Proofs
open Go.Shelf Go.RowKit Go.Proofs.Wide Go.Proofs.Dig
/-- A decimal digit's character. -/
def chD (d : Int) : UInt8 := UInt8.ofNat (48 + d.toNat)
/-- The first j digits (the lowest first) as text, the point put in. -/
def fmtN (P : List Int) (k : Nat) : Nat → List UInt8
  | 0 => []
  | j + 1 => chD (P.getD j 0) :: (if j = k ∧ 0 < k then 46 :: fmtN P k j else fmtN P k j)
def padD (l : List Int) (k : Nat) : List Int := l ++ List.replicate (k + 1 - l.length) 0
theorem fmtN_le (P : List Int) (k : Nat) : ∀ j, j ≤ k → j ≤ P.length → fmtN P k j = (P.take j).reverse.map chD := by
  intro j
  induction j with
  | zero => intro _ _; rfl
  | succ j ih =>
    intro h1 h2
    have : P.take (j + 1) = P.take j ++ [P.getD j 0] := by
      rw [List.take_add_one, List.getD_eq_getElem?_getD, List.getElem?_eq_getElem (by omega)]; rfl
    rw [fmtN, if_neg (by omega), ih (by omega) (by omega), this, List.reverse_append]; rfl
theorem fmtN_gt (P : List Int) (k : Nat) (hk : 0 < k) : ∀ j, k < j → j ≤ P.length → fmtN P k j = ((P.take j).drop k).reverse.map chD ++ [46] ++ (P.take k).reverse.map chD := by
  intro j
  induction j with
  | zero => intro h; omega
  | succ j ih =>
    intro h1 h2
    have e : P.take (j + 1) = P.take j ++ [P.getD j 0] := by
      rw [List.take_add_one, List.getD_eq_getElem?_getD, List.getElem?_eq_getElem (by omega)]; rfl
    have e2 : (P.take (j + 1)).drop k = (P.take j).drop k ++ [P.getD j 0] := by
      rw [e, List.drop_append]
      have : (List.take j P).length = j := by rw [List.length_take]; omega
      rw [show k - (List.take j P).length = 0 by omega]; rfl
    rw [fmtN, e2, List.reverse_append]
    by_cases hj : j = k
    · subst hj
      rw [if_pos ⟨rfl, hk⟩, fmtN_le P j j (Nat.le_refl _) (by omega)]
      have : (List.take j P).drop j = [] := by rw [List.drop_eq_nil_iff, List.length_take]; omega
      rw [this]; simp
    · rw [if_neg (by omega), ih (by omega) (by omega)]; simp
theorem fmtN_zero (P : List Int) : ∀ j, j ≤ P.length → fmtN P 0 j = (P.take j).reverse.map chD := by
  intro j
  induction j with
  | zero => intro _; rfl
  | succ j ih =>
    intro h2
    have : P.take (j + 1) = P.take j ++ [P.getD j 0] := by
      rw [List.take_add_one, List.getD_eq_getElem?_getD, List.getElem?_eq_getElem (by omega)]; rfl
    rw [fmtN, if_neg (by omega), ih (by omega), this, List.reverse_append]; rfl
theorem decDigits_digs : ∀ u : Nat, u ≠ 0 → Lib.decDigits u = (digs u).reverse.map chD := by
  intro u
  induction u using Nat.strongRecOn with
  | _ u ih =>
    intro h
    rw [digs_pos h, List.reverse_cons, List.map_append]
    by_cases h1 : u < 10
    · rw [Lib.decDigits_one h1, show u / 10 = 0 by omega, digs_zero]
      simp [chD]; congr 2; omega
    · rw [Lib.decDigits, dif_neg h1, ih (u / 10) (by omega) (by omega)]
      simp [chD]; congr 1
theorem chD_zeros (n : Nat) : (List.replicate n (0 : Int)).map chD = List.replicate n 48 := by
  rw [List.map_replicate]; rfl
/-- What the reference writes is what the code writes. -/
theorem fmt_eq (n : Int) (k : Nat) (h : RightZ n k) : sgn n ++ fmtN (padD (digs n.natAbs) k) k (padD (digs n.natAbs) k).length = formatL n k := by
  obtain ⟨P, hP⟩ : ∃ P, padD (digs n.natAbs) k = P := ⟨_, rfl⟩
  have hlen : (digs n.natAbs).length ≤ P.length ∧ k + 1 ≤ P.length := by rw [← hP]; unfold padD; simp; omega
  -- the padded text is the padded digits, turned round
  have hpad : (n ≠ 0 ∨ k ≠ 0 ∨ True) → padL n k = P.reverse.map chD := by
    intro _
    by_cases h0 : n.natAbs = 0
    · have hk : k = 0 := by
        rcases h.2.2.2 with e | e
        · exact e
        · exact absurd (by omega : n % 10 = 0) e
      subst hk
      rw [← hP]; unfold padL padD
      rw [h0, digs_zero, Lib.decDigits_one (by decide)]
      decide
    · rw [← hP]; unfold padL padD
      rw [decDigits_digs _ h0, List.reverse_append, List.map_append, List.reverse_replicate, chD_zeros, List.length_map, List.length_reverse]
  have hp := hpad (.inr (.inr trivial))
  rw [hP]
  unfold formatL
  by_cases hk : k = 0
  · subst hk
    rw [if_pos rfl, fmtN_zero P P.length (Nat.le_refl _), List.take_length, ← hp]
    unfold padL
    have : 1 ≤ (Lib.decDigits n.natAbs).length := (decDigits_len _ (by have := h.1; have := h.2.1; omega)).1
    rw [show 0 + 1 - (Lib.decDigits n.natAbs).length = 0 by omega]; rfl
  · rw [if_neg hk, fmtN_gt P k (by omega) P.length (by omega) (Nat.le_refl _), List.take_length, hp]
    have e1 : (List.map chD P.reverse).length - k = (P.drop k).reverse.length := by simp
    have e2 : P.reverse = (P.drop k).reverse ++ (P.take k).reverse := by
      rw [← List.reverse_append, List.take_append_drop]
    have e3 : (List.drop k P).reverse.length = (List.map chD (List.drop k P).reverse).length := by simp
    rw [e1, e2, List.map_append, e3, List.take_left, List.drop_left]
    simp
end Go.Proofs
namespace Go.Proofs
open Go.Shelf Go.RowKit Go.Proofs.Wide Go.Proofs.Dig
def lenAt (w : World) (g : Nat) : Nat := match w.cell? ⟨g, 1, none⟩ with
  | some (.slice _ n _) => n
  | _ => 0
def PadI (l : List Int) (k g : Nat) (w0 : World) (neg : Bool) (wx : World) : Prop := ∃ (j : Nat) (A : Option Addr) (c : Nat), (j = 0 ∨ l.length + j ≤ k + 1) ∧ Own wx g (.bool neg) (.slice A (l.length + j) c) ∧
  wx.ownsRow w0.heap.size 3 1 (.slice A (l.length + j) c) (l.length + j) (cellsD (l ++ List.replicate j 0)) ∧ (Value.slice A (l.length + j) c).ownBlock ≠ some g ∧ w0.heap.size ≤ g ∧ Below w0.heap.size w0 wx
theorem rd_of_row {w : World} {B : Nat} {A : Option Addr} {n c : Nat} {l : List Int} (h : w.ownsRow B 3 1 (.slice A n c) n (cellsD l)) (hn : n = l.length) : Rd w A l ∧ n ≤ c ∧ c ≤ 9223372036854775807 := by
  subst hn
  rcases h.2 with ⟨hv, hn⟩ | ⟨g, cap, cur, hv, _, _, hc, hm, _, _⟩
  · have e := List.eq_nil_of_length_eq_zero hn
    injection hv with h1 h2 h3
    subst e
    exact ⟨Rd.nil, by simp, by omega⟩
  · injection hv with h1 h2 h3
    subst h1; subst h3
    refine ⟨fun _ => ⟨_, rfl, fun j d hd => ?_⟩, hc, by unfold maxLen at hm; omega⟩
    refine h.cells (g := g) rfl j _ ?_
    unfold cellsD
    rw [List.getElem?_map, hd]; rfl
theorem ownsRow_far {w : World} {base size n : Nat} {e : TypeId} {v : Value} {xs : List Value} (h : w.ownsRow base e size v n xs) {p : Addr} (hp : v.ownBlock ≠ some p.block) (u : Value) : (w.setCell p u).ownsRow base e size v n xs :=
  ⟨h.1, h.2.elim .inl fun ⟨g, cap, cur, hv, hb, hh, r⟩ => .inr ⟨g, cap, cur, hv, hb, (Below.heap_setCell w p u g (fun e => hp (by rw [hv]; simp [Value.ownBlock, e]))).trans hh, r⟩⟩
theorem ownBlock_lt {w : World} {base size n : Nat} {e : TypeId} {v : Value} {xs : List Value} (h : w.ownsRow base e size v n xs) {k : Nat} (hk : v.ownBlock = some k) : base ≤ k ∧ k < w.heap.size := h.lt k hk
theorem below_far {w0 w w' : World} (h : Below w0.heap.size w0 w) {v : Value} (hg : w.grownBy w' v.ownBlock) (hv : ∀ k, v.ownBlock = some k → w0.heap.size ≤ k) : Below w0.heap.size w0 w' := h.grown hg h.size hv
theorem pad_step (l : List Int) (j : Nat) : cellsD (l ++ List.replicate j 0) ++ [.int .i64 0] = cellsD (l ++ List.replicate (j + 1) 0) := by
  unfold cellsD
  rw [show j + 1 = j + 1 from rfl, List.replicate_succ', ← List.append_assoc]; simp
theorem one_reads (w : World) (d : Int) : Reads (w.alloc (.cells #[.int .i64 d] 3)) (w.heap.size + 1) 1 (some ⟨w.heap.size, 0, none⟩) 1 [.int .i64 d] :=
  ⟨rfl, fun _ => ⟨_, rfl, by simp, cell_one_new _ _ _⟩⟩
theorem fmtN_len (P : List Int) (k : Nat) : ∀ j, (fmtN P k j).length ≤ j + 1 ∧ (j ≤ k → (fmtN P k j).length ≤ j) := by
  intro j
  induction j with
  | zero => exact ⟨by simp [fmtN], fun _ => by simp [fmtN]⟩
  | succ j ih =>
    by_cases h : j = k ∧ 0 < k
    · rw [fmtN, if_pos h]
      have := ih.2 (by omega)
      exact ⟨by simp; omega, fun _ => by omega⟩
    · rw [fmtN, if_neg h]
      exact ⟨by simp; exact ih.1, fun hj => by simp; exact ih.2 (by omega)⟩
theorem digs_len18 {u : Nat} (h : u ≤ 999999999999999999) : (digs u).length ≤ 18 := by
  by_cases h0 : u = 0
  · subst h0; rw [digs_zero]; simp
  · have h1 := (digs_val u).2.2 h0
    rw [(digs_val u).1] at h1
    rcases Nat.lt_or_ge 18 (digs u).length with h2 | h2
    · obtain ⟨e, he⟩ : ∃ e, (digs u).length - 1 = 18 + e := ⟨(digs u).length - 19, by omega⟩
      rw [he, Int.pow_add, show (10 : Int) ^ 18 = 1000000000000000000 by decide] at h1
      have := p10 e
      omega
    · exact h2
def FmI (P : List Int) (k g : Nat) (A : Option Addr) (c : Nat) (w0 : World) (neg : Bool) (s6 s7 : Value) (wx : World) : Prop := ∃ j : Nat, s6 = .string (ba' (fmtN P k j)) ∧ s7 = .int .i64 j ∧ j ≤ P.length ∧
  Own wx g (.bool neg) (.slice A P.length c) ∧ Rd wx A P ∧ Below w0.heap.size w0 wx
theorem digit_cut (d : Int) (h0 : 0 ≤ d) (h9 : d ≤ 9) : (⟨#[48, 49, 50, 51, 52, 53, 54, 55, 56, 57]⟩ : ByteArray).extract d.toNat (d + 1).toNat = ba' [chD d] := by
  have : d = 0 ∨ d = 1 ∨ d = 2 ∨ d = 3 ∨ d = 4 ∨ d = 5 ∨ d = 6 ∨ d = 7 ∨ d = 8 ∨ d = 9 := by omega
  rcases this with rfl | rfl | rfl | rfl | rfl | rfl | rfl | rfl | rfl | rfl <;> rfl
set_option maxRecDepth 100000 in
set_option maxHeartbeats 4000000 in
theorem refFormat_any (n : Int) (k : Nat) (h : RightZ n k) (w0 : World) : Calls Tryz.prog 45 #[.int .i64 n, .int .i64 k] w0 fun e w' => e = .returned (.string (ba' (formatL n k))) ∧ Below w0.heap.size w0 w' := by
  obtain ⟨i0, hi, hz0, hz1, hz2⟩ := info_parts int_info
  have hE := fmt_eq n k h
  have hd := (digs_val n.natAbs).2.1
  have hlen : (digs n.natAbs).length ≤ 18 := digs_len18 (by have := h.1; have := h.2.1; omega)
  have hk9 := h.2.2.1
  obtain ⟨l, hl⟩ : ∃ l, digs n.natAbs = l := ⟨_, rfl⟩
  have hn : InI n := (rz_inI h).1
  have OF := fun w => of_any n hn w
  rw [hl] at hE hd hlen OF
  have HOF := Lib.hid OF; have HE := Lib.hid hE; have HD := Lib.hid hd
  clear OF hE hd hl h hn
  go_enter Tryz.func45, Tryz.ntmps45
  go_wp2_with (go_at_call 74; refine (HOF.out _).mono ?_; rintro e w1 ⟨v, rfl, hown, hb1⟩; obtain ⟨A, c, rfl⟩ := own_slice hown)
  go_loopw [10] (fun _ wx => PadI l k w1.heap.size w0 (decide (n < 0)) wx) (fun _ wx => k + 1 - lenAt wx w1.heap.size)
  case atStart =>
    exact ⟨0, A, c, .inl rfl, Own.new_at rfl, by simpa using hown.alloc _, fun e => by have := (ownBlock_lt hown e).2; omega, hb1.size, ba hb1⟩
  case round =>
    obtain ⟨j, A', c', hj, O, hown', hne, hg, HB⟩ := hrel
    by_cases hlt : l.length + j ≤ k
    · have O' := Lib.hid O
      obtain ⟨_, _, _, _⟩ := O
      have L0 := O'.out.lt
      have hne' := Lib.hid hne
      have hltI : decide (((l.length + j : Nat) : Int) ≤ (k : Int)) = true := by simp; omega
      have hln : lenAt wr w1.heap.size = l.length + j := by unfold lenAt; simp [*]
      have HLN := Lib.hid hln
      clear hne hln
      go_wp2_with (at_builtin
                   refine wpList_append_any _ rfl (.tmp 16) (.tmp 17) 91 rfl w0.heap.size 3 i0 _ 1 8 Tryz.underlying91 hi hz0 hz1 hz2 rfl (by omega) (.slice A' (l.length + j) c') (l.length + j) _ rfl (hown'.alloc _) _ _ 1 1 [.int .i64 0] rfl (one_reads wr 0) (by intro u hu; simp at hu; subst hu; rfl) (by unfold maxLen; omega) (by omega) (by simp; have := HB.size; omega) ?_
                   intro v3 w3 hown3 hg3 hat3
                   have P1 := own_grown (O'.out.alloc _) hg3 (fun h => hne'.out h.symm)
                   have hb3 : Below w0.heap.size w0 w3 := below_far (ba HB) hg3 (fun q hq => (ownBlock_lt hown' hq).1)
                   obtain ⟨A3, c3, rfl⟩ := own_slice hown3
                   have hne3 : (Value.slice A3 (l.length + j + 1) c3).ownBlock ≠ some w1.heap.size := fun e => hat3.elim (fun h => hne'.out (h.symm.trans e)) (fun h => by rw [h] at e; injection e with e; simp at e; omega)
                   rw [pad_step] at hown3
                   have HN3 := Lib.hid hne3; have HOW3 := Lib.hid hown3
                   clear hne3 hg3 hat3 hown3
                   (have Q := P1; obtain ⟨_, _, _, _⟩ := Q))
      go_roundw
      case rel => exact ⟨j + 1, A3, c3, .inr (by omega), own_store1 P1 _, ownsRow_far HOW3.out HN3.out _, HN3.out, hg, bs hb3 hg⟩
      case measure =>
        have e1 := HLN.out
        have e2 : lenAt (w3.setCell ⟨w1.heap.size, 1, none⟩ (.slice A3 (l.length + j + 1) c3)) w1.heap.size = l.length + j + 1 := by
          unfold lenAt; rw [(own_store1 P1 _).2.1]
        rw [e1, e2]; omega
    · obtain ⟨P, hP⟩ : ∃ P, l ++ List.replicate j 0 = P := ⟨_, rfl⟩
      have hPl : l.length + j = P.length := by rw [← hP]; simp
      have hPk : k + 1 ≤ P.length := by omega
      have hPad : padD l k = P := by
        rw [← hP]; unfold padD
        rcases hj with rfl | hj
        · rw [show k + 1 - l.length = 0 by omega]
        · rw [show k + 1 - l.length = j by omega]
      rw [hPad] at HE
      have hdP : isDig P := by rw [← hP]; exact isDig_append HD.out (isDig_zeros j)
      rw [hP] at hown'
      obtain ⟨hrd, hPc, hc9⟩ := rd_of_row hown' hPl
      rw [hPl] at O hlt hPc
      have hP28 : P.length ≤ 28 := by rw [← hPl]; rcases hj with rfl | hj <;> omega
      clear hP hPl hPad hown' hne HD hj HOF hown hb1
      have O' := Lib.hid O
      obtain ⟨_, _, _, _⟩ := O
      have hltI : decide ((P.length : Int) ≤ (k : Int)) = false := by simp; omega
      have HRD := Lib.hid hrd; have HDP := Lib.hid hdP
      clear hrd hdP
      go_wp2
      go_loopw [6, 7] (fun s6 s7 wx => FmI P k w1.heap.size A' c' w0 (decide (n < 0)) s6 s7 wx) (fun _ s7 _ => P.length - (intOf s7).toNat)
      case atStart => exact ⟨0, rfl, rfl, Nat.zero_le _, O'.out, HRD.out, HB⟩
      case round =>
        obtain ⟨j, rfl, rfl, hj, O2, hrd, HB2⟩ := hrel
        by_cases hlt : j < P.length
        · have O2' := Lib.hid O2
          obtain ⟨_, _, _, _⟩ := O2
          have hltJ : decide ((j : Int) < (P.length : Int)) = true := by simp; omega
          obtain ⟨ad, rfl, hcell⟩ := hrd (by intro e; subst e; simp at hlt)
          have hx := hcell j _ (List.getElem?_eq_getElem hlt)
          have hgd : P.getD j 0 = P[j] := by rw [List.getD_eq_getElem?_getD, List.getElem?_eq_getElem hlt]; rfl
          obtain ⟨d0, d9⟩ := HDP.out _ (List.getElem_mem hlt)
          obtain ⟨d, hd⟩ : ∃ d, P[j] = d := ⟨_, rfl⟩
          rw [hd] at hx hgd d0 d9
          have hfl := (fmtN_len P k j).1
          have hcut := digit_cut d d0 d9
          have hw1 : IntKind.i64.wrap (d + 1) = d + 1 := by rw [IntKind.wrap_i64]; omega
          have HRD2 := Lib.hid hrd; have HGD := Lib.hid hgd
          clear hcell hrd hgd hd
          have hcase : (j = k ∧ 0 < k ∧ fmtN P k (j + 1) = chD d :: 46 :: fmtN P k j) ∨ (¬ j = k ∧ fmtN P k (j + 1) = chD d :: fmtN P k j) ∨ (j = 0 ∧ k = 0 ∧ fmtN P k (j + 1) = chD d :: fmtN P k j) := by
            rw [fmtN, HGD.out]
            by_cases e1 : j = k
            · by_cases e2 : 0 < k
              · exact .inl ⟨e1, e2, by rw [if_pos ⟨e1, e2⟩]⟩
              · exact .inr (.inr ⟨by omega, by omega, by rw [if_neg (by omega)]⟩)
            · exact .inr (.inl ⟨e1, by rw [if_neg (by omega)]⟩)
          obtain ⟨T, hT⟩ : ∃ T, fmtN P k (j + 1) = T := ⟨_, rfl⟩
          obtain ⟨S, hS⟩ : ∃ S, fmtN P k j = S := ⟨_, rfl⟩
          rw [hT, hS] at hcase
          rw [hS] at hfl
          have HT := Lib.hid hT
          rw [hS]
          clear hT hS
          rcases hcase with ⟨rfl, hk0, hTS⟩ | ⟨hjk, hTS⟩ | ⟨hj0, hk0, hTS⟩
          · have hb1 : ((j : Int) == (j : Int)) = true := by simp
            have hb2 : decide ((0 : Int) < (j : Int)) = true := by simp; omega
            have happ : ba' [chD d] ++ ba' (46 :: S) = ba' T := by rw [app_ba, hTS]; rfl
            have hs3 : (ba' S).size ≤ 30 := by rw [size_ba]; omega
            have hs2 : (ba' (46 :: S)).size ≤ 31 := by rw [size_ba]; first | omega | (simp; omega)
            have hs1 : (⟨#[46]⟩ : ByteArray) ++ ba' S = ba' (46 :: S) := app_ba [46] S
            have hx0 : (0 : Int) ≤ (j : Int) := by omega
            have HAPP := Lib.hid happ; have HCUT := Lib.hid hcut
            clear hTS hfl happ hcut
            go_wp2
            go_quiet (fail)
            go_wp2
            go_roundw
            case rel => exact ⟨j + 1, by rw [HT.out, ← HAPP.out, ← HCUT.out], by go_num, by omega, O2'.out.drewN _, HRD2.out.call (bd (Below.refl _ _)), bd HB2⟩
            case measure => simp [intOf]; omega
          · have hb1 : ((j : Int) == (k : Int)) = false := by simp; omega
            have happ : ba' [chD d] ++ ba' (S) = ba' T := by rw [app_ba, hTS]; rfl
            have hs3 : (ba' S).size ≤ 30 := by rw [size_ba]; omega
            have hs2 : (ba' (S)).size ≤ 31 := by rw [size_ba]; first | omega | (simp; omega)
            have hs1 : (⟨#[46]⟩ : ByteArray) ++ ba' S = ba' (46 :: S) := app_ba [46] S
            have hx0 : (0 : Int) ≤ (j : Int) := by omega
            have HAPP := Lib.hid happ; have HCUT := Lib.hid hcut
            clear hTS hfl happ hcut
            go_wp2
            go_quiet (fail)
            go_wp2
            go_roundw
            case rel => exact ⟨j + 1, by rw [HT.out, ← HAPP.out, ← HCUT.out], by go_num, by omega, O2'.out.drewN _, HRD2.out.call (bd (Below.refl _ _)), bd HB2⟩
            case measure => simp [intOf]; omega
          · obtain rfl : j = k := by omega
            have hb1 : ((j : Int) == (j : Int)) = true := by simp
            have hb2 : decide (0 < j) = false := by simp; omega
            have hb3 : ¬ 0 < j := by omega
            have happ : ba' [chD d] ++ ba' (S) = ba' T := by rw [app_ba, hTS]; rfl
            have hs3 : (ba' S).size ≤ 30 := by rw [size_ba]; omega
            have hs2 : (ba' (S)).size ≤ 31 := by rw [size_ba]; first | omega | (simp; omega)
            have hs1 : (⟨#[46]⟩ : ByteArray) ++ ba' S = ba' (46 :: S) := app_ba [46] S
            have hx0 : (0 : Int) ≤ (j : Int) := by omega
            have HJ := Lib.hid hj0; have HK := Lib.hid hk0
            clear hj0 hk0
            have HAPP := Lib.hid happ; have HCUT := Lib.hid hcut
            clear hTS hfl happ hcut
            go_wp2
            go_quiet (fail)
            go_wp2
            go_roundw
            case rel => exact ⟨j + 1, by rw [HT.out, ← HAPP.out, ← HCUT.out], by go_num, by omega, O2'.out.drewN _, HRD2.out.call (bd (Below.refl _ _)), bd HB2⟩
            case measure => simp [intOf]; omega
        · obtain rfl : j = P.length := by omega
          have hT : fmtN P k P.length = fmtN P k P.length := rfl
          have hfl := (fmtN_len P k P.length).1
          obtain ⟨S, hS⟩ : ∃ S, fmtN P k P.length = S := ⟨_, rfl⟩
          rw [hS] at hfl HE ⊢
          clear hT hS
          have hltJ : decide ((P.length : Int) < (P.length : Int)) = false := by simp
          obtain ⟨_, _, _, _⟩ := O2
          have hs3 : (ba' S).size ≤ 30 := by rw [size_ba]; omega
          clear hrd
          by_cases hn : n < 0
          · have hnb : decide (n < 0) = true := by simpa using hn
            have happ : (⟨#[45]⟩ : ByteArray) ++ ba' S = ba' (45 :: S) := app_ba [45] S
            have hF : 45 :: S = formatL n k := by rw [← HE.out]; unfold sgn; rw [if_pos hn]; rfl
            have HF := Lib.hid hF; have HAPP := Lib.hid happ
            clear hF happ
            go_wp2
            go_ret
            exact ⟨(show Ending.returned (.string ((⟨#[45]⟩ : ByteArray) ++ ba' S)) = _ by rw [HAPP.out, HF.out]), HB2⟩
          · have hnb : decide (n < 0) = false := by simpa using hn
            have hF : S = formatL n k := by rw [← HE.out]; unfold sgn; rw [if_neg hn]; rfl
            have HF := Lib.hid hF
            clear hF
            go_wp2
            go_ret
            exact ⟨(show Ending.returned (.string (ba' S)) = _ by rw [HF.out]), HB2⟩
end Go.Proofs
namespace Go.Proofs
open Go.Shelf Go.RowKit Go.Proofs.Wide Go.Proofs.Dig
def dgc (c : UInt8) : Int := (c.toNat : Int) - 48
def stepS (s : Option (List Int × Int)) (c : UInt8) : Option (List Int × Int) := match s with
  | none => none
  | some (D, p) => if c = 46 ∧ p < 0 then some (D, D.length) else if isD c = true then some (D ++ [dgc c], p) else none
def scanL (l : List UInt8) : Option (List Int × Int) := l.foldl stepS (some ([], -1))
theorem scan_none (l : List UInt8) : l.foldl stepS none = none := by
  induction l with
  | nil => rfl
  | cons a l ih => exact ih
theorem scan_digits (p : Int) : ∀ (a : List UInt8) (D : List Int), a.all isD = true → a.foldl stepS (some (D, p)) = some (D ++ a.map dgc, p) := by
  intro a
  induction a with
  | nil => intro D _; simp
  | cons c a ih =>
    intro D h
    simp only [List.all_cons, Bool.and_eq_true] at h
    have hc : ¬ (c = 46 ∧ p < 0) := by
      rintro ⟨rfl, _⟩
      exact absurd h.1 (by decide)
    rw [List.foldl_cons, stepS, if_neg hc, if_pos h.1, ih _ h.2]; simp
theorem scan_bad (p : Int) (D : List Int) (c : UInt8) (r : List UInt8) (h : isD c = false) (hp : ¬ (c = 46 ∧ p < 0)) : (c :: r).foldl stepS (some (D, p)) = none := by
  rw [List.foldl_cons, stepS, if_neg hp, h]; simp [scan_none]
theorem dropWhile_head {q : UInt8 → Bool} : ∀ (l : List UInt8) (c : UInt8) (r : List UInt8), l.dropWhile q = c :: r → q c = false := by
  intro l
  induction l with
  | nil => intro c r h; cases h
  | cons a l ih =>
    intro c r h
    rw [List.dropWhile_cons] at h
    split at h
    · exact ih c r h
    · injection h with h1 h2; subst h1; simp_all
/-- What the reference's reading comes to. -/
theorem scan_eq (t : List UInt8) : scanL t = (if (behindL (t.dropWhile isD)).2 ≠ [] then none else some ((t.takeWhile isD ++ (behindL (t.dropWhile isD)).1).map dgc, if t.dropWhile isD = [] then -1 else ((t.takeWhile isD).length : Int))) := by
  have e := List.takeWhile_append_dropWhile (p := isD) (l := t)
  obtain ⟨a, ha⟩ : ∃ a, t.takeWhile isD = a := ⟨_, rfl⟩
  obtain ⟨r, hr⟩ : ∃ r, t.dropWhile isD = r := ⟨_, rfl⟩
  have hall : a.all isD = true := by rw [← ha]; exact all_takeWhile t
  rw [ha, hr] at e ⊢
  unfold scanL
  rw [← e, List.foldl_append, scan_digits _ a [] hall]
  cases r with
  | nil => simp [behindL]
  | cons c r =>
    have hc := dropWhile_head t c r hr
    by_cases hp : c = 46
    · subst hp
      have e2 := List.takeWhile_append_dropWhile (p := isD) (l := r)
      obtain ⟨b, hb⟩ : ∃ b, r.takeWhile isD = b := ⟨_, rfl⟩
      obtain ⟨r2, hr2⟩ : ∃ r2, r.dropWhile isD = r2 := ⟨_, rfl⟩
      have hbl : behindL (46 :: r) = (b, r2) := by unfold behindL; simp [hb, hr2]
      have hball : b.all isD = true := by rw [← hb]; exact all_takeWhile r
      rw [hb, hr2] at e2
      rw [hbl, List.foldl_cons, stepS, if_pos ⟨rfl, by decide⟩, ← e2, List.foldl_append, scan_digits _ b _ hball]
      cases r2 with
      | nil => simp
      | cons d r2 =>
        have hd := dropWhile_head r d r2 hr2
        rw [scan_bad _ _ d r2 hd (by simp)]; simp
    · have hbl : behindL (c :: r) = ([], c :: r) := by unfold behindL; simp [hp]
      rw [hbl, scan_bad _ _ c r hc (by simp [hp])]; simp
theorem vfold : ∀ (l : List UInt8) (v : Int), l.foldl (fun v c => v * 10 + ((c.toNat : Int) - 48)) v = v * 10 ^ l.length + val (l.map dgc).reverse := by
  intro l
  induction l with
  | nil => intro v; simp [val]
  | cons c l ih =>
    intro v
    rw [List.foldl_cons, ih, List.map_cons, List.reverse_cons, val_append, List.length_reverse, List.length_map, List.length_cons, Int.pow_succ]
    have : val [dgc c] = dgc c := by simp [val]
    rw [this, Int.add_mul, Int.mul_assoc, Int.mul_comm 10 (10 ^ l.length)]
    unfold dgc
    rw [Int.mul_comm ((c.toNat : Int) - 48) (10 ^ l.length)]
    omega
theorem valL_val (l : List UInt8) : valL l = val (l.map dgc).reverse := by
  unfold valL; rw [vfold]; omega
theorem valL_app (a b : List UInt8) : valL (a ++ b) = valL a * 10 ^ b.length + valL b := by
  rw [valL_val, valL_val, valL_val, List.map_append, List.reverse_append, val_append, List.length_reverse, List.length_map, Int.mul_comm]; omega
theorem valL_noughts (a : List UInt8) : valL (a.dropWhile (· == 48)) = valL a := by
  induction a with
  | nil => rfl
  | cons c a ih =>
    rw [List.dropWhile_cons]
    split
    · rename_i h
      have : c = 48 := by simpa using h
      subst this
      rw [ih, show (48 :: a) = [48] ++ a from rfl, valL_app]
      have : valL [48] = 0 := by decide
      rw [this]; omega
    · rfl
theorem isDig_dgc (l : List UInt8) (h : l.all isD = true) : isDig (l.map dgc).reverse := by
  intro d hd
  obtain ⟨c, hc, rfl⟩ := List.mem_map.1 (List.mem_reverse.1 hd)
  have := List.all_eq_true.1 h c hc
  unfold isD at this; unfold dgc
  simp at this; omega
theorem norm_big : ∀ (s : Nat) (x : Int), 1000000000000000000 * 10 ^ s ≤ x ∨ x ≤ -(1000000000000000000 * 10 ^ s) → 1000000000000000000 ≤ (norm s x).1 ∨ (norm s x).1 ≤ -1000000000000000000 := by
  intro s
  induction s with
  | zero => intro x h; simp [norm] at h ⊢; exact h
  | succ s ih =>
    intro x h
    have p := p10 s
    have e : (10 : Int) ^ (s + 1) = 10 * 10 ^ s := by rw [Int.pow_succ, Int.mul_comm]
    rw [e] at h
    rw [norm_s']
    split
    · refine ih _ ?_
      omega
    · have : 1000000000000000000 * 1 ≤ 1000000000000000000 * (10 : Int) ^ s := by omega
      show 1000000000000000000 ≤ x ∨ x ≤ -1000000000000000000
      omega
/-- Too many digits ahead of the point: it doesn't fit. -/
theorem fit_big (neg : Bool) (a b : List UInt8) (ha : a.all isD = true) (hb : b.all isD = true) (h : 18 < (a.dropWhile (· == 48)).length) : fitZ (sg neg (valL (a ++ b))) b.length = none := by
  have hA : (1000000000000000000 : Int) ≤ valL a := by
    rw [← valL_noughts]
    obtain ⟨c, r, hcr⟩ : ∃ c r, a.dropWhile (· == 48) = c :: r := by
      cases e : a.dropWhile (· == 48) with
      | nil => rw [e] at h; simp at h
      | cons c r => exact ⟨c, r, rfl⟩
    rw [hcr] at h ⊢
    have hc : c ≠ 48 := by have := dropWhile_head a c r hcr; simpa using this
    have hall : (c :: r).all isD = true := by rw [← hcr]; exact all_drop a ha
    simp only [List.all_cons, Bool.and_eq_true] at hall
    rw [show c :: r = [c] ++ r from rfl, valL_app]
    have h1 : 1 ≤ valL [c] := by
      have := hall.1; unfold isD at this; simp at this
      have hne : c.toNat ≠ 48 := fun e => hc (by rw [← UInt8.toNat_inj]; exact e)
      unfold valL; simp; omega
    have h2 := (valL_bound r hall.2).1
    have hl : 18 ≤ r.length := by simp at h; omega
    obtain ⟨e, he⟩ : ∃ e, r.length = 18 + e := ⟨r.length - 18, by omega⟩
    have h3 : 1 * (10 : Int) ^ r.length ≤ valL [c] * 10 ^ r.length := Int.mul_le_mul_of_nonneg_right h1 (by have := p10 r.length; omega)
    rw [he, Int.pow_add, show (10 : Int) ^ 18 = 1000000000000000000 by decide] at h3
    rw [he, Int.pow_add, show (10 : Int) ^ 18 = 1000000000000000000 by decide]
    have := p10 e
    omega
  have hB := (valL_bound b hb).1
  have hX : 1000000000000000000 * 10 ^ b.length ≤ valL (a ++ b) := by
    rw [valL_app]
    have := Int.mul_le_mul_of_nonneg_right hA (by have := p10 b.length; omega : (0 : Int) ≤ 10 ^ b.length)
    omega
  have hC : 1000000000000000000 * 10 ^ (min b.length 9) ≤ cut (sg neg (valL (a ++ b))) b.length ∨ cut (sg neg (valL (a ++ b))) b.length ≤ -(1000000000000000000 * 10 ^ (min b.length 9)) := by
    by_cases h9 : 9 < b.length
    · rw [cut_sg neg _ _ (by have := p10 b.length; omega) h9, show min b.length 9 = 9 by omega]
      have hd : 1000000000000000000 * 10 ^ 9 ≤ valL (a ++ b) / 10 ^ (b.length - 9) := by
        refine Int.le_ediv_of_mul_le (p10 _) ?_
        rw [Int.mul_assoc, ← Int.pow_add, show 9 + (b.length - 9) = b.length by omega]; exact hX
      unfold sg; split <;> omega
    · rw [show min b.length 9 = b.length by omega]
      unfold cut; rw [if_neg h9]; unfold sg; split <;> omega
  have := norm_big _ _ hC
  unfold fitZ
  rw [if_neg (by omega)]
/-- The digits behind the ninth are cut. -/
theorem fit_cut (neg : Bool) (a b : List UInt8) (ha : a.all isD = true) (hb : b.all isD = true) :
    fitZ (if neg = true then -valL (a.dropWhile (· == 48) ++ b.take 9) else valL (a.dropWhile (· == 48) ++ b.take 9)) (b.take 9).length = fitZ (sg neg (valL (a ++ b))) b.length := by
  have e1 : valL (a.dropWhile (· == 48) ++ b.take 9) = valL (a ++ b.take 9) := by rw [valL_app, valL_app, valL_noughts]
  rw [e1]
  have h0 : 0 ≤ valL (a ++ b) := (valL_bound (a ++ b) (by rw [List.all_append, ha, hb]; rfl)).1
  have e2 : cut (sg neg (valL (a ++ b))) b.length = sg neg (valL (a ++ b.take 9)) := by
    by_cases h9 : 9 < b.length
    · rw [cut_sg neg _ _ h0 h9]
      congr 1
      have eb : a ++ b = (a ++ b.take 9) ++ b.drop 9 := by rw [List.append_assoc, List.take_append_drop]
      have hq := valL_bound (b.drop 9) (by rw [List.all_eq_true]; intro x hx; exact List.all_eq_true.1 hb x (List.mem_of_mem_drop hx))
      rw [eb, valL_app, List.length_drop] at *
      rw [Int.add_comm, Int.add_mul_ediv_right _ _ (by have := p10 (b.length - 9); omega), Int.ediv_eq_zero_of_lt hq.1 hq.2]
      omega
    · unfold cut; rw [if_neg h9, List.take_of_length_le (by omega)]
  unfold fitZ
  rw [e2, List.length_take]
  have e3 : cut (if neg = true then -valL (a ++ b.take 9) else valL (a ++ b.take 9)) (min 9 b.length) = sg neg (valL (a ++ b.take 9)) := by
    unfold cut; rw [if_neg (by omega)]; rfl
  rw [e3, show min (min 9 b.length) 9 = min b.length 9 by omega]
/-- What a text says, with all its digits. -/
def refP (l : List UInt8) : Int × Int × Int := match scanL (signL l).1 with
  | none => (0, 0, 12)
  | some (D, p) => if D = [] then (0, 0, 12) else
    let f := fitZ (sg (signL l).2 (val D.reverse)) (if 0 ≤ p then D.length - p.toNat else 0)
    (outN f, outK f, outE f)
theorem ref_parse (l : List UInt8) : refP l = parseZ l := by
  obtain ⟨t, ht⟩ : ∃ t, (signL l).1 = t := ⟨_, rfl⟩
  unfold refP parseZ
  rw [ht, scan_eq]
  obtain ⟨a, ha⟩ : ∃ a, t.takeWhile isD = a := ⟨_, rfl⟩
  obtain ⟨r, hr⟩ : ∃ r, t.dropWhile isD = r := ⟨_, rfl⟩
  obtain ⟨b, r2, hb⟩ : ∃ b r2, behindL r = (b, r2) := ⟨_, _, rfl⟩
  have hall : a.all isD = true := by rw [← ha]; exact all_takeWhile t
  have hball : b.all isD = true := by
    unfold behindL at hb
    split at hb
    · injection hb with h1 _; rw [← h1]; exact all_takeWhile _
    · injection hb with h1 _; rw [← h1]; rfl
  have hr0 : r = [] → b = [] := by
    rintro rfl
    unfold behindL at hb; simp at hb; exact hb.1
  rw [ha, hr, hb]
  unfold parseP
  by_cases h1 : r2 ≠ []
  · simp [h1]
  · have h1' : r2 = [] := by simpa using h1
    subst h1'
    by_cases h2 : a ++ b = []
    · simp [h2]
    · have h3 : ¬ ((a ++ b).map dgc = []) := by simpa using h2
      simp only [ne_eq, not_true_eq_false, if_false, false_or, h2, h3]
      have hs : (if 0 ≤ (if r = [] then (-1 : Int) else (a.length : Int)) then ((a ++ b).map dgc).length - (if r = [] then (-1 : Int) else (a.length : Int)).toNat else 0) = b.length := by
        by_cases h4 : r = []
        · rw [if_pos h4, if_neg (by decide), hr0 h4]; rfl
        · rw [if_neg h4, if_pos (by omega)]; simp
      rw [hs, ← valL_val]
      by_cases h5 : 18 < (a.dropWhile (· == 48)).length
      · rw [if_pos h5, fit_big _ a b hall hball h5]; rfl
      · rw [if_neg h5, fit_cut _ a b hall hball]
end Go.Proofs
namespace Go.Proofs
open Go.Shelf Go.RowKit Go.Proofs.Wide Go.Proofs.Dig
def refT (neg : Bool) (t : List UInt8) : Int × Int × Int := match scanL t with
  | none => (0, 0, 12)
  | some (D, p) => if D = [] then (0, 0, 12) else
    let f := fitZ (sg neg (val D.reverse)) (if 0 ≤ p then D.length - p.toNat else 0)
    (outN f, outK f, outE f)
noncomputable def pbody : Code := Tryz.f51.body.getD .skip
def ScI (t : List UInt8) (w0 : World) (s6 s7 s8 : Value) (wx : World) : Prop := ∃ (i : Nat) (D : List Int) (p : Int) (A : Option Addr) (c : Nat), s8 = .int .i64 i ∧ i ≤ t.length ∧ s6 = .slice A D.length c ∧ s7 = .int .i64 p ∧
  Hid ((t.take i).foldl stepS (some ([], -1)) = some (D, p)) ∧ D.length ≤ i ∧ -1 ≤ p ∧ p ≤ D.length ∧ isDig D ∧ wx.ownsRow w0.heap.size 3 1 (.slice A D.length c) D.length (cellsD D) ∧ Below w0.heap.size w0 wx
def LwI (D : List Int) (_w0 wq : World) (A : Option Addr) (_c : Nat) (s10 s11 : Value) (wx : World) : Prop := ∃ (m : Nat) (B : Option Addr) (cb : Nat), s11 = .int .i64 ((m : Int) - 1) ∧ m ≤ D.length ∧ s10 = .slice B (D.length - m) cb ∧
  wx.ownsRow wq.heap.size 3 1 (.slice B (D.length - m) cb) (D.length - m) (cellsD (D.drop m).reverse) ∧ Rd wx A D ∧ Below wq.heap.size wq wx
theorem row_snoc {w : World} {B : Nat} {A : Option Addr} {c : Nat} {D : List Int} {d : Int} (h : w.ownsRow B 3 1 (.slice A (D.length + 1) c) (D.length + 1) (cellsD D ++ [.int .i64 d])) :
    w.ownsRow B 3 1 (.slice A (D ++ [d]).length c) (D ++ [d]).length (cellsD (D ++ [d])) := by
  rw [cellsD_snoc, List.length_append]; exact h
set_option maxRecDepth 100000 in
set_option maxHeartbeats 8000000 in
theorem refParse_low (D : List Int) (hDl : D.length ≤ 2000000) (hdg : isDig D) (A : Option Addr) (c : Nat) (neg : Bool) (sc : Nat) (hsc : sc ≤ 2000000) (hDc : D.length ≤ c) (hc9 : c ≤ 9223372036854775807) (pn pk pe : Int)
    (hp : (pn, pk, pe) = (outN (fitZ (sg neg (val D.reverse)) sc), outK (fitZ (sg neg (val D.reverse)) sc), outE (fitZ (sg neg (val D.reverse)) sc))) (c0 c1 c2 c3 c4 c7 c8 c10 c11 c12 c13 c14 c15 c16 c17 c18 c19 c20 c21 c22 c23 c24 c25 c26 c27 c28 c29 c30 c31 c32 c33 c34 c35 c36 c37 c38 c39 c40 c41 c42 c43 c44 c45 c46 c47 c48 c49 c50 c51 c52 c53 c54 c55 c56 c57 c58 c59 c60 c61 c62 c63 c64 c65 c66 c67 c68 c69 c70 c71 c72 c73 c74 c75 c76 c77 c78 c79 c80 c81 c82 c83 c84 c85 c86 c87 c88 c89 c90 c91 c92 c93 c94 c95 c96 c97 c98 c99 c100 c101 c102 : Value) (w0 W : World) (hrd : Rd W A D) (hb : Below w0.heap.size w0 W)
    (K : Act → World → Prop) (hK : ∀ a w, Code.wp Tryz.prog (skipn 10 pbody) (bodyPost Tryz.prog Tryz.f51 fun e w' => e = .returned (.tuple #[.int .i64 pn, .int .i64 pk, .int .i64 pe]) ∧ Below w0.heap.size w0 w') a w → K a w) :
    Code.wp Tryz.prog ((Tryz.f51.body.bind (regionOf 20)).getD .skip) (Exit.then K (bodyPost Tryz.prog Tryz.f51 fun e w' => e = .returned (.tuple #[.int .i64 pn, .int .i64 pk, .int .i64 pe]) ∧ Below w0.heap.size w0 w')) { tmps := #[c0, c1, c2, c3, c4, .bool neg, .slice A D.length c, c7, c8, .int .i64 (sc : Nat), c10, c11, c12, c13, c14, c15, c16, c17, c18, c19, c20, c21, c22, c23, c24, c25, c26, c27, c28, c29, c30, c31, c32, c33, c34, c35, c36, c37, c38, c39, c40, c41, c42, c43, c44, c45, c46, c47, c48, c49, c50, c51, c52, c53, c54, c55, c56, c57, c58, c59, c60, c61, c62, c63, c64, c65, c66, c67, c68, c69, c70, c71, c72, c73, c74, c75, c76, c77, c78, c79, c80, c81, c82, c83, c84, c85, c86, c87, c88, c89, c90, c91, c92, c93, c94, c95, c96, c97, c98, c99, c100, c101, c102], defers := [] } W := by
  obtain ⟨i0, hi, hz0, hz1, hz2⟩ := info_parts int_info
  have HP := Lib.hid hp; have HDG := Lib.hid hdg; have HRD := Lib.hid hrd
  have wD : IntKind.i64.wrap ((D.length : Int) - 1) = (D.length : Int) - 1 := by rw [IntKind.wrap_i64]; omega
  clear hp hdg hrd
  conv => arg 2; whnf
  conv at hK => enter [a, w, 1, 2]; whnf
  go_wp2_with fail
  go_loopw [10, 11] (fun s10 s11 wx => LwI D w0 W A c s10 s11 wx) (fun _ s11 _ => (intOf s11 + 1).toNat)
  case atStart => exact ⟨D.length, none, 0, rfl, Nat.le_refl _, by rw [Nat.sub_self], ⟨by simp [cellsD], .inl ⟨by rw [Nat.sub_self], Nat.sub_self _⟩⟩, HRD.out, Below.refl _ _⟩
  case round =>
    obtain ⟨m, B, cb, rfl, hm, rfl, hown, hrd, HB⟩ := hrel
    cases m with
    | zero =>
      rw [List.drop_zero, Nat.sub_zero] at hown
      obtain ⟨hrB, hB1, hB2⟩ := rd_of_row hown (by rw [List.length_reverse])
      have HF := fun w hr => refFit_any neg B D.reverse cb sc w (fun d hd => HDG.out d (List.mem_reverse.1 hd)) hr (by rw [List.length_reverse]; exact hB1) hB2 (by omega)
      rw [List.length_reverse] at HF
      have HPP := HP.out
      obtain ⟨F, hF⟩ : ∃ F, fitZ (sg neg (val D.reverse)) sc = F := ⟨_, rfl⟩
      rw [hF] at HF HPP
      injection HPP with h1 h2
      injection h2 with h2 h3
      subst h1; subst h2; subst h3
      have HFF := Lib.hid HF; have HRB := Lib.hid hrB
      clear HF hrB hF hown hrd
      rw [Nat.sub_zero]
      cases F with
      | none =>
        unfold outN outK outE at *
        go_wp2_with (go_at_call 80; refine (HFF.out _ HRB.out).mono ?_; rintro e w' ⟨rfl, hb5⟩)
        exact bodyPost_ret (v := .tuple #[.int .i64 0, .int .i64 0, .int .i64 53]) (by simp [results, Tryz.results51, go_sem]) rfl ⟨rfl, bt (bt hb HB) hb5⟩
      | some q =>
        obtain ⟨qn, qk⟩ := q
        unfold outN outK outE at *
        go_wp2_with (go_at_call 80; refine (HFF.out _ HRB.out).mono ?_; rintro e w' ⟨rfl, hb5⟩)
        exact bodyPost_ret (v := .tuple #[.int .i64 qn, .int .i64 qk, .int .i64 0]) (by simp [results, Tryz.results51, go_sem]) rfl ⟨rfl, bt (bt hb HB) hb5⟩
    | succ m =>
      obtain ⟨ad, rfl, hcell⟩ := hrd (by intro e; subst e; simp at hm)
      have hlt : m < D.length := by omega
      have hx := hcell m _ (List.getElem?_eq_getElem hlt)
      obtain ⟨d, hd⟩ : ∃ d, D[m] = d := ⟨_, rfl⟩
      rw [hd] at hx
      have hdr : (D.drop m).reverse = (D.drop (m + 1)).reverse ++ [d] := by rw [List.drop_eq_getElem_cons hlt, List.reverse_cons, hd]
      have HDR := Lib.hid hdr
      have em : ((m + 1 : Nat) : Int) - 1 = (m : Int) := by omega
      have HRD2 := Lib.hid hrd
      have hmI : (0 : Int) ≤ (m : Int) := by omega
      have wm : IntKind.i64.wrap ((m : Int) - 1) = (m : Int) - 1 := by rw [IntKind.wrap_i64]; omega
      rw [em]
      clear hcell hd hdr hrd em
      go_wp2_with (at_builtin; refine wpList_append_any _ rfl (.tmp 83) (.tmp 88) 91 rfl W.heap.size 3 i0 _ 1 8 Tryz.underlying91 hi hz0 hz1 hz2 rfl (by omega) _ _ _ rfl (hown.alloc _) _ _ 1 1 [.int .i64 d] rfl (one_reads _ _) (by intro u hu; simp at hu; subst hu; rfl) (by unfold maxLen; omega) (by omega) (by simp; have := HB.size; omega) ?_; intro v3 w3 hown3 hg3 hat3; have hb3 : Below W.heap.size W w3 := below_far (ba HB) hg3 (fun q hq => (ownBlock_lt hown hq).1); obtain ⟨A3, c3, rfl⟩ := own_slice hown3; have HOW3 := Lib.hid hown3; clear hown3 hg3 hat3)
      go_roundw
      case rel => exact ⟨m, A3, c3, by rfl, by omega, by rw [show D.length - (m + 1) + 1 = D.length - m by omega], by rw [HDR.out, cellsD_snoc, show D.length - m = D.length - (m + 1) + 1 by omega]; exact HOW3.out, HRD.out.call hb3, hb3⟩
      case measure => first | (simp [intOf]; done) | (simp [intOf]; omega)
set_option maxRecDepth 100000 in
set_option maxHeartbeats 8000000 in
theorem refParse_rest (t : List UInt8) (ht : t.length ≤ 2000000) (neg : Bool) (pn pk pe : Int) (hp : refT neg t = (pn, pk, pe)) (c1 c6 c7 c8 c9 c10 c11 c12 c13 c14 c15 c16 c17 c18 c19 c20 c21 c22 c23 c24 c25 c26 c27 c28 c29 c30 c31 c32 c33 c34 c35 c36 c37 c38 c39 c40 c41 c42 c43 c44 c45 c46 c47 c48 c49 c50 c51 c52 c53 c54 c55 c56 c57 c58 c59 c60 c61 c62 c63 c64 c65 c66 c67 c68 c69 c70 c71 c72 c73 c74 c75 c76 c77 c78 c79 c80 c81 c82 c83 c84 c85 c86 c87 c88 c89 c90 c91 c92 c93 c94 c95 c96 c97 c98 c99 c100 c101 c102 : Value) (w0 W : World) (hb : Below w0.heap.size w0 W)
    (K : Act → World → Prop) (hK : ∀ a w, Code.wp Tryz.prog (skipn 4 pbody) (bodyPost Tryz.prog Tryz.f51 fun e w' => e = .returned (.tuple #[.int .i64 pn, .int .i64 pk, .int .i64 pe]) ∧ Below w0.heap.size w0 w') a w → K a w) :
    Code.wp Tryz.prog ((Tryz.f51.body.bind (regionOf 5)).getD .skip) (Exit.then K (bodyPost Tryz.prog Tryz.f51 fun e w' => e = .returned (.tuple #[.int .i64 pn, .int .i64 pk, .int .i64 pe]) ∧ Below w0.heap.size w0 w')) { tmps := #[.string (ba' t), c1, .int .i64 0, .int .i64 0, .int .i64 0, .bool neg, c6, c7, c8, c9, c10, c11, c12, c13, c14, c15, c16, c17, c18, c19, c20, c21, c22, c23, c24, c25, c26, c27, c28, c29, c30, c31, c32, c33, c34, c35, c36, c37, c38, c39, c40, c41, c42, c43, c44, c45, c46, c47, c48, c49, c50, c51, c52, c53, c54, c55, c56, c57, c58, c59, c60, c61, c62, c63, c64, c65, c66, c67, c68, c69, c70, c71, c72, c73, c74, c75, c76, c77, c78, c79, c80, c81, c82, c83, c84, c85, c86, c87, c88, c89, c90, c91, c92, c93, c94, c95, c96, c97, c98, c99, c100, c101, c102], defers := [] } W := by
  obtain ⟨i0, hi, hz0, hz1, hz2⟩ := info_parts int_info
  have hs := size_ba t
  have hs1 : ((ba' t).size : Int) = t.length := by rw [hs]
  have HP := Lib.hid hp
  clear hp
  conv => arg 2; whnf
  conv at hK => enter [a, w, 1, 2]; whnf
  go_wp2_with fail
  go_loopw [6, 7, 8] (fun s6 s7 s8 wx => ScI t w0 s6 s7 s8 wx) (fun _ _ s8 _ => t.length - (intOf s8).toNat)
  case atStart => exact ⟨0, [], -1, none, 0, rfl, Nat.zero_le _, rfl, rfl, Lib.hid rfl, Nat.le_refl _, by decide, by decide, (fun d hd => by cases hd), ⟨rfl, .inl ⟨rfl, rfl⟩⟩, hb⟩
  case round =>
    obtain ⟨i, D, p, A, c, rfl, hi', rfl, rfl, hsc, hDi, hp1, hp2, hdg, hown, HB⟩ := hrel
    by_cases hlt : i < t.length
    · obtain ⟨c8, hc8⟩ : ∃ c8, t[i] = c8 := ⟨_, rfl⟩
      have hts : t.take (i + 1) = t.take i ++ [c8] := by rw [List.take_add_one, List.getElem?_eq_getElem hlt, hc8]; rfl
      have hst : (t.take (i + 1)).foldl stepS (some ([], -1)) = stepS (some (D, p)) c8 := by rw [hts, List.foldl_append, hsc.out]; rfl
      have hgi : ((ba' t)[i]'(by rw [hs]; exact hlt)).toNat = c8.toNat := by rw [← hc8]; rfl
      have hwhole : scanL t = (t.drop (i + 1)).foldl stepS (stepS (some (D, p)) c8) := by
        unfold scanL; conv => lhs; rw [← List.take_append_drop (i + 1) t]
        rw [List.foldl_append, hst]
      have HST := Lib.hid hst; have HW := Lib.hid hwhole
      have hDB : D.length ≤ 2000000 := by omega
      clear hts hst hwhole hsc hc8
      by_cases hA : c8 = 46 ∧ p < 0
      · have hn : stepS (some (D, p)) c8 = some (D, (D.length : Int)) := by show (if c8 = 46 ∧ p < 0 then _ else _) = _; rw [if_pos hA]
        have HN : Hid ((t.take (i + 1)).foldl stepS (some ([], -1)) = some (D, (D.length : Int))) := Lib.hid (by rw [HST.out, hn])
        obtain ⟨rfl, hpn⟩ := hA
        have hpb : decide (p < 0) = true := by simpa using hpn
        have h46 : (46 : UInt8).toNat = 46 := rfl
        rw [h46] at hgi
        clear hn
        go_wp2
        go_roundw
        case rel => exact ⟨i + 1, D, _, A, c, by go_num, by omega, rfl, rfl, HN, by omega, by omega, Int.le_refl _, hdg, hown, HB⟩
        case measure => simp [intOf]; omega
      · by_cases hD : isD c8 = true
        · have hn : stepS (some (D, p)) c8 = some (D ++ [dgc c8], p) := by show (if c8 = 46 ∧ p < 0 then _ else if isD c8 = true then _ else _) = _; rw [if_neg hA, if_pos hD]
          have HN : Hid ((t.take (i + 1)).foldl stepS (some ([], -1)) = some (D ++ [dgc c8], p)) := Lib.hid (by rw [HST.out, hn])
          have hc1 : 48 ≤ (c8.toNat : Int) := by unfold isD at hD; simp at hD; omega
          have hc2 : (c8.toNat : Int) ≤ 57 := by unfold isD at hD; simp at hD; omega
          have hdd : (c8.toNat : Int) - 48 = dgc c8 := rfl
          obtain ⟨cv, hcv⟩ : ∃ cv, c8.toNat = cv := ⟨_, rfl⟩
          rw [hcv] at hgi hc1 hc2 hdd
          have e46 : ((cv : Int) == 46) = false := by simp; omega
          have e48 : decide ((cv : Int) < 48) = false := by simp; omega
          have e57 : decide ((57 : Int) < (cv : Int)) = false := by simp; omega
          have w8 : IntKind.u8.wrap ((cv : Int) - 48) = (cv : Int) - 48 := by rw [IntKind.wrap_u8]; omega
          obtain ⟨d, hd⟩ : ∃ d, dgc c8 = d := ⟨_, rfl⟩
          rw [hd] at hdd HN
          have d0 : 0 ≤ d := by omega
          have d9 : d ≤ 9 := by omega
          clear hn hA hD hcv hd HST HW
          go_wp2_with (at_builtin; refine wpList_append_any _ rfl (.tmp 59) (.tmp 65) 91 rfl w0.heap.size 3 i0 _ 1 8 Tryz.underlying91 hi hz0 hz1 hz2 rfl (by omega) _ _ _ rfl (hown.alloc _) _ _ 1 1 [.int .i64 d] rfl (one_reads _ _) (by intro u hu; simp at hu; subst hu; rfl) (by unfold maxLen; omega) (by omega) (by simp; have := HB.size; omega) ?_; intro v3 w3 hown3 hg3 hat3; have hb3 : Below w0.heap.size w0 w3 := below_far (ba HB) hg3 (fun q hq => (ownBlock_lt hown hq).1); obtain ⟨A3, c3, rfl⟩ := own_slice hown3; have HOW3 := Lib.hid hown3; clear hown3 hg3 hat3)
          go_roundw
          case rel => exact ⟨i + 1, D ++ [d], p, A3, c3, by go_num, by omega, by rw [List.length_append]; rfl, rfl, HN, by rw [List.length_append]; simp; omega, hp1, by rw [List.length_append]; simp; omega, isDig_append hdg (fun x hx => by simp at hx; subst hx; exact ⟨d0, d9⟩), row_snoc HOW3.out, hb3⟩
          case measure => simp [intOf]; omega
        · have hn : stepS (some (D, p)) c8 = none := by show (if c8 = 46 ∧ p < 0 then _ else if isD c8 = true then _ else _) = _; rw [if_neg hA, if_neg hD]
          have hR : (pn, pk, pe) = (0, 0, 12) := by rw [← HP.out]; unfold refT; rw [HW.out, hn, scan_none]
          injection hR with h1 h2
          injection h2 with h2 h3
          subst h1; subst h2; subst h3
          have h57 : (c8.toNat : Int) < 48 ∨ (57 : Int) < (c8.toNat : Int) := by unfold isD at hD; simp at hD; omega
          have h46 : ¬ (c8.toNat : Int) = 46 ∨ ¬ p < 0 := by
            by_cases e : c8 = 46
            · exact .inr fun h => hA ⟨e, h⟩
            · exact .inl fun h => e (by rw [← UInt8.toNat_inj]; have : (46 : UInt8).toNat = 46 := rfl; omega)
          obtain ⟨cv, hcv⟩ : ∃ cv, c8.toNat = cv := ⟨_, rfl⟩
          rw [hcv] at hgi h57 h46
          clear hn hA hD hcv HST HW
          have hall : (((cv : Int) == 46) = false ∧ decide ((cv : Int) < 48) = true) ∨ (((cv : Int) == 46) = false ∧ decide ((cv : Int) < 48) = false ∧ decide ((57 : Int) < (cv : Int)) = true) ∨ (cv = 46 ∧ decide (p < 0) = false) := by
            by_cases e : (cv : Int) = 46
            · exact .inr (.inr ⟨by omega, by simp; omega⟩)
            · by_cases e2 : (cv : Int) < 48
              · exact .inl ⟨by simpa using e, by simpa using e2⟩
              · exact .inr (.inl ⟨by simpa using e, by simpa using e2, by simp; omega⟩)
          clear h57 h46
          rcases hall with ⟨g1, g2⟩ | ⟨g1, g2, g3⟩ | ⟨rfl, g2⟩
          · go_wp2
            exact bodyPost_ret (v := .tuple #[.int .i64 0, .int .i64 0, .int .i64 12]) (by simp [results, Tryz.results51, go_sem]) rfl ⟨rfl, HB⟩
          · go_wp2
            exact bodyPost_ret (v := .tuple #[.int .i64 0, .int .i64 0, .int .i64 12]) (by simp [results, Tryz.results51, go_sem]) rfl ⟨rfl, HB⟩
          · go_wp2
            exact bodyPost_ret (v := .tuple #[.int .i64 0, .int .i64 0, .int .i64 12]) (by simp [results, Tryz.results51, go_sem]) rfl ⟨rfl, HB⟩
    · obtain rfl : i = t.length := by omega
      have hsc' : scanL t = some (D, p) := by have := hsc.out; rwa [List.take_length] at this
      have hT : (pn, pk, pe) = (if D = [] then (0, 0, 12) else (outN (fitZ (sg neg (val D.reverse)) (if 0 ≤ p then D.length - p.toNat else 0)), outK (fitZ (sg neg (val D.reverse)) (if 0 ≤ p then D.length - p.toNat else 0)), outE (fitZ (sg neg (val D.reverse)) (if 0 ≤ p then D.length - p.toNat else 0)))) := by
        rw [← HP.out]; unfold refT; rw [hsc']
      have hltJ : decide ((t.length : Int) < (t.length : Int)) = false := by simp
      clear hsc hsc'
      by_cases h0 : D = []
      · rw [if_pos h0] at hT
        injection hT with h1 h2
        injection h2 with h2 h3
        subst h1; subst h2; subst h3
        subst h0
        clear hown
        go_wp2
        exact bodyPost_ret (v := .tuple #[.int .i64 0, .int .i64 0, .int .i64 12]) (by simp [results, Tryz.results51, go_sem]) rfl ⟨rfl, HB⟩
      · rw [if_neg h0] at hT
        have hD1 : 0 < D.length := by cases D with
          | nil => exact absurd rfl h0
          | cons _ _ => simp
        clear h0
        obtain ⟨hrd, hDc, hc9⟩ := rd_of_row hown rfl
        have HRD := Lib.hid hrd; have HT := Lib.hid hT; have HDG := Lib.hid hdg
        have hD0 : ((D.length : Int) == 0) = false := by rw [beq_eq_false_iff_ne]; omega
        clear hown hrd hT hdg
        by_cases hp0 : 0 ≤ p
        · have hpb : decide ((0 : Int) ≤ p) = true := by simpa using hp0
          obtain ⟨sc, hsc⟩ : ∃ sc, D.length - p.toNat = sc := ⟨_, rfl⟩
          have hTT := HT.out
          rw [if_pos hp0, hsc] at hTT
          have wsc : IntKind.i64.wrap ((D.length : Int) - p) = (sc : Int) := by rw [IntKind.wrap_i64]; omega
          have HTT := Lib.hid hTT
          have hsc3 : sc ≤ 2000000 := by omega
          clear hTT hsc
          go_upto_region 20 with fail
          refine refParse_low D (by omega) HDG.out A c neg sc hsc3 hDc hc9 pn pk pe HTT.out _ _ _ _ _ _ _ _ _ _ _ _ _ _ _ _ _ _ _ _ _ _ _ _ _ _ _ _ _ _ _ _ _ _ _ _ _ _ _ _ _ _ _ _ _ _ _ _ _ _ _ _ _ _ _ _ _ _ _ _ _ _ _ _ _ _ _ _ _ _ _ _ _ _ _ _ _ _ _ _ _ _ _ _ _ _ _ _ _ _ _ _ _ _ _ _ _ _ _ _ w0 wr HRD.out HB _ ?_
          assumption
        · have hpb : decide ((0 : Int) ≤ p) = false := by simpa using hp0
          have hTT := HT.out
          rw [if_neg hp0] at hTT
          have HTT := Lib.hid hTT
          clear hTT
          go_upto_region 20 with fail
          refine refParse_low D (by omega) HDG.out A c neg 0 (by omega) hDc hc9 pn pk pe HTT.out _ _ _ _ _ _ _ _ _ _ _ _ _ _ _ _ _ _ _ _ _ _ _ _ _ _ _ _ _ _ _ _ _ _ _ _ _ _ _ _ _ _ _ _ _ _ _ _ _ _ _ _ _ _ _ _ _ _ _ _ _ _ _ _ _ _ _ _ _ _ _ _ _ _ _ _ _ _ _ _ _ _ _ _ _ _ _ _ _ _ _ _ _ _ _ _ _ _ _ _ w0 wr HRD.out HB _ ?_
          assumption
set_option maxRecDepth 100000 in
set_option maxHeartbeats 8000000 in
theorem refParse_any (l : List UInt8) (hl : l.length ≤ 2000000) (w0 : World) : Calls Tryz.prog 51 #[.string (ba' l)] w0 fun e w' => e = .returned (.tuple #[.int .i64 (parseZ l).1, .int .i64 (parseZ l).2.1, .int .i64 (parseZ l).2.2]) ∧ Below w0.heap.size w0 w' := by
  have hs := size_ba l
  have hs1 : ((ba' l).size : Int) = l.length := by rw [hs]
  have hR : refT (signL l).2 (signL l).1 = ((parseZ l).1, (parseZ l).2.1, (parseZ l).2.2) := by rw [← ref_parse]; rfl
  have hlen := signL_len l
  generalize (parseZ l).1 = pn at *
  generalize (parseZ l).2.1 = pk at *
  generalize (parseZ l).2.2 = pe at *
  have HR := Lib.hid hR
  clear hR
  cases l with
  | nil =>
    have e : signL [] = ([], false) := rfl
    rw [e] at HR
    go_enter Tryz.func51, Tryz.ntmps51
    go_upto_region 5 with fail
    refine refParse_rest [] (by simp) false pn pk pe HR.out _ _ _ _ _ _ _ _ _ _ _ _ _ _ _ _ _ _ _ _ _ _ _ _ _ _ _ _ _ _ _ _ _ _ _ _ _ _ _ _ _ _ _ _ _ _ _ _ _ _ _ _ _ _ _ _ _ _ _ _ _ _ _ _ _ _ _ _ _ _ _ _ _ _ _ _ _ _ _ _ _ _ _ _ _ _ _ _ _ _ _ _ _ _ _ _ _ _ w0 _ (Below.refl _ _) _ ?_
    assumption
  | cons c r =>
    have h0 : 0 < (ba' (c :: r)).size := by rw [hs]; simp
    have hgi : ((ba' (c :: r))[0]'h0).toNat = c.toNat := rfl
    have hsl : (ba' (c :: r)).extract 1 (ba' (c :: r)).size = ba' r := by
      apply ByteArray.ext
      simp [ba']
      exact List.take_of_length_le (by simp [ByteArray.size])
    have hrl : r.length ≤ 2000000 := by simp at hl; omega
    have hsl2 : (ba' (c :: r)).extract 1 (r.length + 1) = ba' r := by rw [← hsl, hs]; rfl
    have HSL := Lib.hid hsl2
    clear hsl hsl2
    have hpos : (0 : Int) < ((ba' (c :: r)).size : Int) := by omega
    by_cases e45 : c = 45
    · subst e45
      have e : signL (45 :: r) = (r, true) := rfl
      rw [e] at HR
      have hg : (45 : UInt8).toNat = 45 := rfl
      rw [hg] at hgi
      clear e hlen
      go_enter Tryz.func51, Tryz.ntmps51
      go_upto_region 5 with fail
      rw [HSL.out]
      refine refParse_rest r hrl true pn pk pe HR.out _ _ _ _ _ _ _ _ _ _ _ _ _ _ _ _ _ _ _ _ _ _ _ _ _ _ _ _ _ _ _ _ _ _ _ _ _ _ _ _ _ _ _ _ _ _ _ _ _ _ _ _ _ _ _ _ _ _ _ _ _ _ _ _ _ _ _ _ _ _ _ _ _ _ _ _ _ _ _ _ _ _ _ _ _ _ _ _ _ _ _ _ _ _ _ _ _ _ w0 _ (Below.refl _ _) _ ?_
      assumption
    · by_cases e43 : c = 43
      · subst e43
        have e : signL (43 :: r) = (r, false) := rfl
        rw [e] at HR
        have hg : (43 : UInt8).toNat = 43 := rfl
        rw [hg] at hgi
        clear e hlen
        go_enter Tryz.func51, Tryz.ntmps51
        go_upto_region 5 with fail
        rw [HSL.out]
        refine refParse_rest r hrl false pn pk pe HR.out _ _ _ _ _ _ _ _ _ _ _ _ _ _ _ _ _ _ _ _ _ _ _ _ _ _ _ _ _ _ _ _ _ _ _ _ _ _ _ _ _ _ _ _ _ _ _ _ _ _ _ _ _ _ _ _ _ _ _ _ _ _ _ _ _ _ _ _ _ _ _ _ _ _ _ _ _ _ _ _ _ _ _ _ _ _ _ _ _ _ _ _ _ _ _ _ _ _ w0 _ (Below.refl _ _) _ ?_
        assumption
      · have e : signL (c :: r) = (c :: r, false) := by unfold signL; simp [e45, e43]
        rw [e] at HR
        have n45 : ¬ c.toNat = 45 := fun h => e45 (by rw [← UInt8.toNat_inj]; exact h)
        have n43 : ¬ c.toNat = 43 := fun h => e43 (by rw [← UInt8.toNat_inj]; exact h)
        obtain ⟨cv, hcv⟩ : ∃ cv, c.toNat = cv := ⟨_, rfl⟩
        rw [hcv] at n45 n43 hgi
        have b45 : ((cv : Int) == 45) = false := by rw [beq_eq_false_iff_ne]; omega
        have b43 : ((cv : Int) == 43) = false := by rw [beq_eq_false_iff_ne]; omega
        clear e hlen e45 e43 hcv
        go_enter Tryz.func51, Tryz.ntmps51
        go_upto_region 5 with fail
        refine refParse_rest (c :: r) hl false pn pk pe HR.out _ _ _ _ _ _ _ _ _ _ _ _ _ _ _ _ _ _ _ _ _ _ _ _ _ _ _ _ _ _ _ _ _ _ _ _ _ _ _ _ _ _ _ _ _ _ _ _ _ _ _ _ _ _ _ _ _ _ _ _ _ _ _ _ _ _ _ _ _ _ _ _ _ _ _ _ _ _ _ _ _ _ _ _ _ _ _ _ _ _ _ _ _ _ _ _ _ _ w0 _ (Below.refl _ _) _ ?_
        assumption
end Go.Proofs
namespace Go.Proofs
open Go.Shelf Go.RowKit Go.Proofs.Wide Go.Proofs.Dig
theorem isD_chD (d : Int) (h0 : 0 ≤ d) (h9 : d ≤ 9) : isD (chD d) = true ∧ dgc (chD d) = d ∧ chD d ≠ 45 ∧ chD d ≠ 43 := by
  have : d = 0 ∨ d = 1 ∨ d = 2 ∨ d = 3 ∨ d = 4 ∨ d = 5 ∨ d = 6 ∨ d = 7 ∨ d = 8 ∨ d = 9 := by omega
  rcases this with rfl | rfl | rfl | rfl | rfl | rfl | rfl | rfl | rfl | rfl <;> decide
theorem all_chD (l : List Int) (h : isDig l) : (l.map chD).all isD = true := by
  rw [List.all_eq_true]
  intro c hc
  obtain ⟨d, hd, rfl⟩ := List.mem_map.1 hc
  exact (isD_chD d (h d hd).1 (h d hd).2).1
theorem dgc_chD (l : List Int) (h : isDig l) : (l.map chD).map dgc = l := by
  rw [List.map_map]
  conv => rhs; rw [← List.map_id l]
  refine List.map_congr_left fun d hd => ?_
  exact (isD_chD d (h d hd).1 (h d hd).2).2.1
theorem takeWhile_all {q : UInt8 → Bool} : ∀ (a r : List UInt8), a.all q = true → (∀ c r', r = c :: r' → q c = false) → (a ++ r).takeWhile q = a ∧ (a ++ r).dropWhile q = r := by
  intro a
  induction a with
  | nil => intro r _ h; cases r with
    | nil => exact ⟨rfl, rfl⟩
    | cons c r => have := h c r rfl; simp [this]
  | cons c a ih =>
    intro r h hr
    simp only [List.all_cons, Bool.and_eq_true] at h
    obtain ⟨i1, i2⟩ := ih r h.2 hr
    simp [h.1, i1, i2]
/-- What is printed is read back. -/
theorem parse_format (n : Int) (k : Nat) (h : RightZ n k) : parseZ (formatL n k) = (n, (k : Int), 0) := by
  rw [← fmt_eq n k h]
  have hd := digs_val n.natAbs
  obtain ⟨P, hP⟩ : ∃ P, padD (digs n.natAbs) k = P := ⟨_, rfl⟩
  have hPd : isDig P := by rw [← hP]; exact isDig_append hd.2.1 (isDig_zeros _)
  have hPv : val P = n.natAbs := by rw [← hP]; unfold padD; rw [val_append, hd.1, val_zeros]; omega
  have hPl : k + 1 ≤ P.length := by rw [← hP]; unfold padD; simp; omega
  rw [hP]
  have hB : fmtN P k P.length = (if k = 0 then P.reverse.map chD else (P.drop k).reverse.map chD ++ [46] ++ (P.take k).reverse.map chD) := by
    by_cases hk : k = 0
    · subst hk; rw [if_pos rfl, fmtN_zero P P.length (Nat.le_refl _), List.take_length]
    · rw [if_neg hk, fmtN_gt P k (by omega) P.length (by omega) (Nat.le_refl _), List.take_length]
  obtain ⟨B, hBB⟩ : ∃ B, fmtN P k P.length = B := ⟨_, rfl⟩
  rw [hBB] at hB ⊢
  have hrd : isDig P.reverse := fun d hx => hPd d (List.mem_reverse.1 hx)
  have hdr : isDig (P.drop k).reverse := fun d hx => isDig_drop hPd k d (List.mem_reverse.1 hx)
  have htk : isDig (P.take k).reverse := fun d hx => isDig_take hPd k d (List.mem_reverse.1 hx)
  have hhead : B.head? ≠ some 45 ∧ B.head? ≠ some 43 := by
    have hne : (P.drop k).reverse ≠ [] := by intro e; have := congrArg List.length e; simp at this; omega
    have key : ∀ (l : List Int) (s : List UInt8), isDig l → l ≠ [] → (l.map chD ++ s).head? ≠ some 45 ∧ (l.map chD ++ s).head? ≠ some 43 := by
      intro l s hl hne
      cases l with
      | nil => exact absurd rfl hne
      | cons d l =>
        have := isD_chD d (hl d (by simp)).1 (hl d (by simp)).2
        simp [this.2.2.1, this.2.2.2]
    rw [hB]
    split
    · have := key P.reverse [] hrd (by intro e; have := congrArg List.length e; simp at this; rw [this] at hPl; simp at hPl)
      simpa using this
    · rw [List.append_assoc]; exact key _ _ hdr hne
  have hsg : signL (sgn n ++ B) = (B, decide (n < 0)) := by
    unfold sgn
    by_cases hn : n < 0
    · rw [if_pos hn]; unfold signL; simp [hn]
    · rw [if_neg hn]; unfold signL; simp [hhead.1, hhead.2, hn]
  have hsgn : sg (decide (n < 0)) ((n.natAbs : Nat) : Int) = n := by unfold sg; by_cases hn : n < 0 <;> simp [hn] <;> omega
  have hfit : fitZ n k = some (n, k) := (fit_some n n k k h.2.2.1).2 ⟨h, rfl⟩
  rw [← ref_parse]
  unfold refP
  rw [hsg, scan_eq]
  by_cases hk : k = 0
  · subst hk
    rw [if_pos rfl] at hB
    have tw := takeWhile_all B [] (by rw [hB]; exact all_chD _ hrd) (fun c r' e => by cases e)
    rw [List.append_nil] at tw
    have hD : B.map dgc = P.reverse := by rw [hB]; exact dgc_chD _ hrd
    have hne : ¬ (B.map dgc = []) := by rw [hD]; intro e; have := congrArg List.length e; simp at this; rw [this] at hPl; simp at hPl
    rw [tw.1, tw.2]
    simp only [behindL, List.head?_nil]
    simp [hD, hPv, hsgn, hfit, outN, outK, outE]
    intro e; subst e; simp at hPl
  · rw [if_neg hk] at hB
    have hB' : B = (P.drop k).reverse.map chD ++ (46 :: (P.take k).reverse.map chD) := by rw [hB]; simp
    have tw := takeWhile_all ((P.drop k).reverse.map chD) (46 :: (P.take k).reverse.map chD) (all_chD _ hdr) (fun c r' e => by injection e with e1 _; subst e1; decide)
    have tw2 := takeWhile_all ((P.take k).reverse.map chD) [] (all_chD _ htk) (fun c r' e => by cases e)
    rw [List.append_nil] at tw2
    rw [hB', tw.1, tw.2]
    have hbl : behindL (46 :: (P.take k).reverse.map chD) = ((P.take k).reverse.map chD, []) := by
      generalize (P.take k).reverse.map chD = X at tw2
      have h46 : ((46 : UInt8) :: X).head? = some 46 := rfl
      unfold behindL
      rw [if_pos h46]
      show (X.takeWhile isD, X.dropWhile isD) = _
      rw [tw2.1, tw2.2]
    rw [hbl]
    have hD : ((P.drop k).reverse.map chD ++ (P.take k).reverse.map chD).map dgc = P.reverse := by
      rw [List.map_append, dgc_chD _ hdr, dgc_chD _ htk, ← List.reverse_append, List.take_append_drop]
    have hne : ¬ (P.reverse = []) := by intro e; have := congrArg List.length e; simp at this; rw [this] at hPl; simp at hPl
    have hlen : ((P.drop k).reverse.map chD).length = P.length - k := by simp
    simp only [hD, hlen, ne_eq, not_true_eq_false, if_false, hne, reduceCtorEq]
    have e1 : P.reverse.length - ((P.length - k : Nat) : Int).toNat = k := by simp; omega
    rw [if_pos (by omega), e1, List.reverse_reverse, hPv, hsgn, hfit]
    rfl
theorem format_len (n : Int) (k : Nat) (h : RightZ n k) : (formatL n k).length ≤ 100 := by
  rw [← fmt_eq n k h]
  have h1 := (fmtN_len (padD (digs n.natAbs) k) k (padD (digs n.natAbs) k).length).1
  have h2 : (padD (digs n.natAbs) k).length ≤ 28 := by
    have := digs_len18 (u := n.natAbs) (by have := h.1; have := h.2.1; omega)
    have := h.2.2.1
    unfold padD; simp; omega
  rw [List.length_append]
  have h3 : (sgn n).length ≤ 1 := by unfold sgn; split <;> simp
  omega
end Go.Proofs
