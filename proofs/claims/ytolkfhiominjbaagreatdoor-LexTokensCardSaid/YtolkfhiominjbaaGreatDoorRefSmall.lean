/- Next at any place; the reference finds a text right, a place, a digit, a space, the value of a digit; its signs. No condition beyond what the theorems state. -/
import Derived.Test.YtolkfhiominjbaaGreatDoorLexer
import Derived.Test.YtolkfhiominjbaaGreatDoorTokens
import Derived.Test.YtolkfhiominjbaaGreatDoorValid
namespace Go.Proofs.YtolkfhiominjbaaGreatDoor
open Go.RowKit Go.Lib
set_option maxRecDepth 100000
set_option maxHeartbeats 8000000
theorem lexNext_go (s : List UInt8) (p : Int) (t0 t2 t3 : Int) (t1 : ByteArray) (e0 : Int) (w : World)
    (HR : Hid (∀ w1, Below w.heap.size w w1 → Calls Tryz.prog 12 #[.string (ba' s), .int .i64 p] w1 fun e w' => e = .returned (.bool true) ∧ Below w1.heap.size w1 w'))
    (HN : Hid (∀ w1, Below w.heap.size w w1 → Calls Tryz.prog 13 #[.string (ba' s), .int .i64 p] w1 fun e w' => e = .returned (.tuple #[.agg #[.int .i64 t0, .string t1, .int .i64 t2, .int .i64 t3], .int .i64 e0]) ∧ Below w1.heap.size w1 w')) :
    Calls Tryz.prog 7 #[.string (ba' s), .int .i64 p] w fun e w' => e = .returned (.tuple #[.agg #[.int .i64 t0, .string t1, .int .i64 t2, .int .i64 t3], .int .i64 e0]) ∧ Below w.heap.size w w' := by
  go_enter Tryz.func7, Tryz.ntmps7
  go_wp2_with fail
  refine (HR.out _ (ba (Below.refl _ _))).mono ?_
  rintro e w1 ⟨rfl, hb1⟩
  have HB1 : Hid (Below w.heap.size w w1) := Lib.hid (bt (ba (Below.refl _ _)) hb1)
  have c0 := fun o => hb1.cell (p := ⟨w.heap.size, o, none⟩) (by simp)
  have f0 := fun o => hb1.frozen (p := ⟨w.heap.size, o, none⟩) (by simp)
  have z1 : w.heap.size < w1.heap.size := zz hb1 (by simp)
  clear hb1
  go_wp2_with fail
  refine (HN.out _ HB1.out).mono ?_
  rintro e w2 ⟨rfl, hb2⟩
  have HB2 : Hid (Below w.heap.size w w2) := Lib.hid (bt HB1.out hb2)
  have c2 := fun o => (hb2.cell (p := ⟨w.heap.size, o, none⟩) z1).trans (c0 o)
  have f2 := fun o => (hb2.frozen (p := ⟨w.heap.size, o, none⟩) z1).trans (f0 o)
  have z2 : w.heap.size < w2.heap.size := zz hb2 z1
  clear hb2 c0 f0
  go_wp2
  refine bodyPost_ret (v := .tuple #[.agg #[.int .i64 t0, .string t1, .int .i64 t2, .int .i64 t3], .int .i64 e0]) ?_ rfl ⟨rfl, ?_⟩
  · have d0 : w2.cell? ⟨w.heap.size, 0, none⟩ = some (.int .i64 0) := (c2 0).trans (by simp)
    have d1 : w2.cell? ⟨w.heap.size, 1, none⟩ = some (.string ⟨#[]⟩) := (c2 1).trans (by simp)
    have d2 : w2.cell? ⟨w.heap.size, 2, none⟩ = some (.int .i64 0) := (c2 2).trans (by simp)
    have d3 : w2.cell? ⟨w.heap.size, 3, none⟩ = some (.int .i64 0) := (c2 3).trans (by simp)
    clear c2 f2
    simp [results, Tryz.results7, go_sem, *]
  · exact (((HB2.out.setCell (p := ⟨w.heap.size, 0, none⟩) (Nat.le_refl _) _).setCell (p := ⟨w.heap.size, 1, none⟩) (Nat.le_refl _) _).setCell (p := ⟨w.heap.size, 2, none⟩) (Nat.le_refl _) _).setCell (p := ⟨w.heap.size, 3, none⟩) (Nat.le_refl _) _
theorem lexNext_bad (s : List UInt8) (p : Int) (w : World)
    (HR : Hid (∀ w1, Below w.heap.size w w1 → Calls Tryz.prog 12 #[.string (ba' s), .int .i64 p] w1 fun e w' => e = .returned (.bool false) ∧ Below w1.heap.size w1 w')) :
    Calls Tryz.prog 7 #[.string (ba' s), .int .i64 p] w fun e w' => e = .returned (.tuple #[.agg #[.int .i64 0, .string ⟨#[]⟩, .int .i64 0, .int .i64 0], .int .i64 2]) ∧ Below w.heap.size w w' := by
  go_enter Tryz.func7, Tryz.ntmps7
  go_wp2_with fail
  refine (HR.out _ (ba (Below.refl _ _))).mono ?_
  rintro e w1 ⟨rfl, hb1⟩
  have HB1 : Hid (Below w.heap.size w w1) := Lib.hid (bt (ba (Below.refl _ _)) hb1)
  have c0 := fun o => hb1.cell (p := ⟨w.heap.size, o, none⟩) (by simp)
  have f0 := fun o => hb1.frozen (p := ⟨w.heap.size, o, none⟩) (by simp)
  have z1 : w.heap.size < w1.heap.size := zz hb1 (by simp)
  clear hb1
  go_wp2
  refine bodyPost_ret (v := .tuple #[.agg #[.int .i64 0, .string ⟨#[]⟩, .int .i64 0, .int .i64 0], .int .i64 2]) ?_ rfl ⟨rfl, ?_⟩
  · have d0 : w1.cell? ⟨w.heap.size, 0, none⟩ = some (.int .i64 0) := (c0 0).trans (by simp)
    have d1 : w1.cell? ⟨w.heap.size, 1, none⟩ = some (.string ⟨#[]⟩) := (c0 1).trans (by simp)
    have d2 : w1.cell? ⟨w.heap.size, 2, none⟩ = some (.int .i64 0) := (c0 2).trans (by simp)
    have d3 : w1.cell? ⟨w.heap.size, 3, none⟩ = some (.int .i64 0) := (c0 3).trans (by simp)
    clear c0 f0
    simp [results, Tryz.results7, go_sem, *]
  · exact (((HB1.out.setCell (p := ⟨w.heap.size, 0, none⟩) (Nat.le_refl _) _).setCell (p := ⟨w.heap.size, 1, none⟩) (Nat.le_refl _) _).setCell (p := ⟨w.heap.size, 2, none⟩) (Nat.le_refl _) _).setCell (p := ⟨w.heap.size, 3, none⟩) (Nat.le_refl _) _
/-- What lex.Next answers. -/
def XPost (s : List UInt8) (p : Int) (e : Ending) : Prop :=
  if okT s p = true then NPost (nextF s p.toNat) e else e = .returned (.tuple #[.agg #[.int .i64 0, .string ⟨#[]⟩, .int .i64 0, .int .i64 0], .int .i64 2])
theorem lexNext_any (s : List UInt8) (hs : s.length ≤ maxLen) (p : Int) (w : World) (hE : Env w) : Calls Tryz.prog 7 #[.string (ba' s), .int .i64 p] w fun e w' => XPost s p e ∧ Below w.heap.size w w' := by
  have hR := fun w1 (hb : Below w.heap.size w w1) => okT_any s hs p w1 (hE.below hb).1
  cases hok : okT s p with
  | false =>
    rw [hok] at hR
    unfold XPost
    rw [hok]
    exact (lexNext_bad s p w (Lib.hid hR)).mono fun e w' h => h
  | true =>
    rw [hok] at hR
    have hp := hok
    unfold okT at hp
    simp only [Bool.and_eq_true, decide_eq_true_eq] at hp
    obtain ⟨⟨⟨h1, h2⟩, h3⟩, _⟩ := hp
    obtain ⟨q, rfl⟩ : ∃ q : Nat, p = (q : Int) := ⟨p.toNat, by omega⟩
    have hN := fun w1 (hb : Below w.heap.size w w1) => nextF_any s q (by omega) (by omega) w1 (hE.below hb)
    unfold XPost
    rw [hok]
    simp only [if_true, Int.toNat_natCast]
    cases hn : nextF s q with
    | none =>
      rw [hn] at hN
      exact (lexNext_go s q 0 0 0 ⟨#[]⟩ 40 w (Lib.hid hR) (Lib.hid hN)).mono fun e w' h => h
    | some t =>
      rw [hn] at hN
      exact (lexNext_go s q t.k t.a t.b (ba' t.x) 0 w (Lib.hid hR) (Lib.hid hN)).mono fun e w' h => h
theorem fine_any (s : List UInt8) (hs : s.length ≤ 1099511627776) (p : Int) (w : World) : Calls Tryz.prog 8 #[.string (ba' s), .int .i64 p] w fun e w' => e = .returned (.bool (okT s p)) ∧ Below w.heap.size w w' := by
  have hsz : (ba' s).size = s.length := size_ba s
  by_cases h1 : s.length ≤ 65536
  · have g1 : decide ((s.length : Int) ≤ 65536) = true := by simp; omega
    have g1' : decide (s.length ≤ 65536) = true := by simpa using h1
    by_cases h2 : 0 ≤ p
    · have g2 : decide ((0 : Int) ≤ p) = true := by simpa using h2
      by_cases h3 : p ≤ s.length
      · have g3 : decide (p ≤ (s.length : Int)) = true := by simpa using h3
        have HV := Lib.hid (valid_ref (ba' s) w (by rw [hsz]; exact hs))
        have HF : Hid (okT s p = validX (ba' s).data.toList) := Lib.hid (by unfold okT; rw [show (ba' s).data.toList = s from rfl]; simp [h1, h2, h3])
        obtain ⟨b, hb⟩ : ∃ b, validX (ba' s).data.toList = b := ⟨_, rfl⟩
        rw [hb] at HV HF
        clear hb
        go_enter Tryz.func8, Tryz.ntmps8
        go_wp2_with fail
        refine HV.out.mono ?_
        rintro e w1 ⟨rfl, hb1⟩
        have HB1 := Lib.hid hb1
        clear hb1
        go_wp2
        go_ret
        exact ⟨by rw [HF.out]; rfl, HB1.out⟩
      · have g3 : decide (p ≤ (s.length : Int)) = false := by simp; omega
        have HF : Hid (okT s p = false) := Lib.hid (by unfold okT; simp [h1, h2, h3])
        go_enter Tryz.func8, Tryz.ntmps8
        go_wp2
        go_ret
        exact ⟨by rw [HF.out]; rfl, Below.refl _ _⟩
    · have g2 : decide ((0 : Int) ≤ p) = false := by simp; omega
      have HF : Hid (okT s p = false) := Lib.hid (by unfold okT; simp [h1, h2])
      go_enter Tryz.func8, Tryz.ntmps8
      go_wp2
      go_ret
      exact ⟨by rw [HF.out]; rfl, Below.refl _ _⟩
  · have g1 : decide ((s.length : Int) ≤ 65536) = false := by simp; omega
    have g1' : decide (s.length ≤ 65536) = false := by simpa using h1
    have HF : Hid (okT s p = false) := Lib.hid (by unfold okT; simp [h1])
    go_enter Tryz.func8, Tryz.ntmps8
    go_wp2
    go_ret
    exact ⟨by rw [HF.out]; rfl, Below.refl _ _⟩
end Go.Proofs.YtolkfhiominjbaaGreatDoor
namespace Go.Proofs.YtolkfhiominjbaaGreatDoor
open Go.RowKit Go.Lib
set_option maxRecDepth 100000
set_option maxHeartbeats 8000000
theorem pre_take : ∀ (l p : List UInt8), Lib.hasPrefix l p = (decide (p.length ≤ l.length) && (l.take p.length == p))
  | l, [] => by simp [Lib.hasPrefix]
  | [], b :: p => by simp [Lib.hasPrefix, List.isPrefixOf]
  | a :: l, b :: p => by
    have ih := pre_take l p
    unfold Lib.hasPrefix at ih ⊢
    rw [List.isPrefixOf, ih]
    simp only [List.length_cons, List.take_succ_cons, Nat.add_le_add_iff_right]
    rw [show (a :: l.take p.length == b :: p) = (a == b && (l.take p.length == p)) from rfl]
    rw [show (b == a) = (a == b) from BEq.comm]
    cases decide (p.length ≤ l.length) <;> cases (a == b) <;> rfl
theorem at_any (s p : List UInt8) (i : Nat) (hs : s.length ≤ 70000) (hi : i ≤ s.length) (hp : p.length ≤ 70000) (w : World) : Calls Tryz.prog 17 #[.string (ba' s), .int .i64 (i : Nat), .string (ba' p)] w fun e w' => e = .returned (.bool (Lib.hasPrefix (s.drop i) p)) ∧ w' = w := by
  have s1 : (ba' s).size = s.length := size_ba s
  have p1 : (ba' p).size = p.length := size_ba p
  have hR := pre_take (s.drop i) p
  rw [List.length_drop] at hR
  obtain ⟨R, hRR⟩ : ∃ R, Lib.hasPrefix (s.drop i) p = R := ⟨_, rfl⟩
  rw [hRR] at hR ⊢
  clear hRR
  have hsub : ((s.length : Nat) : Int) - ((i : Nat) : Int) = ((s.length - i : Nat) : Int) := by omega
  by_cases h : p.length ≤ s.length - i
  · have g1 : decide ((p.length : Int) ≤ ((s.length - i : Nat) : Int)) = true := by simp only [decide_eq_true_eq]; omega
    have g2 : decide (p.length ≤ s.length - i) = true := by simpa using h
    have gx : ((ba' s).extract i (i + p.length)).toList = (s.drop i).take p.length := by
      rw [ByteArray.toList_eq, extract_list]
      show (s.take (i + p.length)).drop i = _
      rw [List.drop_take, Nat.add_sub_cancel_left]
    have gp : (ba' p).toList = p := toList_ba p
    obtain ⟨b, hb⟩ : ∃ b, ((s.drop i).take p.length == p) = b := ⟨_, rfl⟩
    have HR : Hid (R = b) := Lib.hid (by rw [hR, hb]; simp [h])
    have q1 : (((ba' s).extract i (i + p.length)).toList == (ba' p).toList) = b := by rw [gx, gp, hb]
    clear hb gx hR gp
    go_enter Tryz.func17, Tryz.ntmps17
    go_wp2
    go_ret
    exact ⟨by rw [HR.out]; rfl, rfl⟩
  · have g1 : decide ((p.length : Int) ≤ ((s.length - i : Nat) : Int)) = false := by simp only [decide_eq_false_iff_not]; omega
    have g2 : decide (p.length ≤ s.length - i) = false := by simpa using h
    have HR : Hid (R = false) := Lib.hid (by rw [hR]; simp [h])
    clear hR
    go_enter Tryz.func17, Tryz.ntmps17
    go_wp2
    go_ret
    exact ⟨by rw [HR.out]; rfl, rfl⟩
def digB (c : UInt8) : Bool := decide (48 ≤ c.toNat) && decide (c.toNat ≤ 57)
def digAt (l : List UInt8) : Bool := match l with
  | [] => false
  | c :: _ => digB c
theorem digR_any (s : List UInt8) (i : Nat) (_hs : s.length ≤ 70000) (hi : i ≤ s.length) (w : World) : Calls Tryz.prog 19 #[.string (ba' s), .int .i64 (i : Nat)] w fun e w' => e = .returned (.bool (digAt (s.drop i))) ∧ w' = w := by
  have s1 : (ba' s).size = s.length := size_ba s
  by_cases h : i < s.length
  · have g1 : decide ((i : Int) < (s.length : Int)) = true := by simp; omega
    have g2 : decide (i < s.length) = true := by simpa using h
    have hlt' : i < (ba' s).size := by omega
    obtain ⟨c, hc⟩ : ∃ c, s[i]'h = c := ⟨_, rfl⟩
    have ec : (ba' s)[i]'hlt' = c := hc
    have HR : Hid (digAt (s.drop i) = digB c) := Lib.hid (by rw [List.drop_eq_getElem_cons h, hc]; rfl)
    clear hc
    go_enter Tryz.func19, Tryz.ntmps19
    go_wp2
    all_goals (go_ret; refine ⟨?_, rfl⟩; rw [HR.out]; unfold digB; congr 2; rename_i q)
    · have q1 : decide (48 ≤ c.toNat) = true := by simp only [decide_eq_true_eq]; omega
      rw [q1, Bool.true_and]
      show Value.bool (decide ((c.toNat : Int) ≤ 57)) = _
      congr 1
      exact decide_eq_decide.2 (by omega)
    · have q1 : decide (48 ≤ c.toNat) = false := by simp only [decide_eq_false_iff_not]; omega
      rw [q1]
      rfl
  · have g1 : decide ((i : Int) < (s.length : Int)) = false := by simp; omega
    have g2 : decide (i < s.length) = false := by simpa using h
    have HR : Hid (digAt (s.drop i) = false) := Lib.hid (by rw [List.drop_eq_nil_iff.2 (by omega)]; rfl)
    go_enter Tryz.func19, Tryz.ntmps19
    go_wp2
    go_ret
    exact ⟨by rw [HR.out]; rfl, rfl⟩
theorem spaceR_any (c : UInt8) (w : World) : Calls Tryz.prog 27 #[.int .u8 (c.toNat : Int)] w fun e w' => e = .returned (.bool (spc.contains c)) ∧ w' = w := by
  have HR : Hid (spc.contains c = (decide (c.toNat = 9) || decide (c.toNat = 10) || decide (c.toNat = 13) || decide (c.toNat = 32))) := Lib.hid (by
    have h : ∀ n : Fin 256, spc.contains (UInt8.ofNat n.val) = (decide (n.val = 9) || decide (n.val = 10) || decide (n.val = 13) || decide (n.val = 32)) := by decide +kernel
    have := h ⟨c.toNat, c.toNat_lt⟩
    simpa using this)
  go_enter Tryz.func27, Tryz.ntmps27
  go_wp2
  all_goals (go_ret; refine ⟨?_, rfl⟩; rw [HR.out])
  · have q1 : c.toNat = 9 := by omega
    rw [q1]
    rfl
  · have q1 : c.toNat = 10 := by omega
    rw [q1]
    rfl
  · have q1 : c.toNat = 13 := by omega
    rw [q1]
    rfl
  · show Ending.returned (.bool ((c.toNat : Int) == 9 || (c.toNat : Int) == 10 || (c.toNat : Int) == 13 || (c.toNat : Int) == 32)) = _
    congr 2
    rw [Bool.eq_iff_iff]
    simp only [Bool.or_eq_true, beq_iff_eq, decide_eq_true_eq]
    omega
end Go.Proofs.YtolkfhiominjbaaGreatDoor
namespace Go.Proofs.YtolkfhiominjbaaGreatDoor
open Go.RowKit Go.Lib
set_option maxRecDepth 100000
set_option maxHeartbeats 8000000
def hexL : List UInt8 := [48, 49, 50, 51, 52, 53, 54, 55, 56, 57, 97, 98, 99, 100, 101, 102]
def hexU : List UInt8 := [48, 49, 50, 51, 52, 53, 54, 55, 56, 57, 65, 66, 67, 68, 69, 70]
/-- The value of a digit from some place of the table on. -/
def valGo (c : UInt8) : Nat → Nat → Nat
  | 0, _ => 99
  | f + 1, i => if c = hexL.getD i 0 ∨ c = hexU.getD i 0 then i else valGo c f (i + 1)
def valF (c : UInt8) : Nat := valGo c 16 0
theorem hexL_at : ∀ i : Fin 16, (⟨#[48, 49, 50, 51, 52, 53, 54, 55, 56, 57, 97, 98, 99, 100, 101, 102]⟩ : ByteArray)[i.val]'i.isLt = hexL.getD i.val 0 := by decide +kernel
theorem hexU_at : ∀ i : Fin 16, (⟨#[48, 49, 50, 51, 52, 53, 54, 55, 56, 57, 65, 66, 67, 68, 69, 70]⟩ : ByteArray)[i.val]'i.isLt = hexU.getD i.val 0 := by decide +kernel
theorem val_any (c : UInt8) (w : World) : Calls Tryz.prog 52 #[.int .u8 (c.toNat : Int)] w fun e w' => e = .returned (.int .i64 (valF c : Nat)) ∧ w' = w := by
  obtain ⟨R, hR⟩ : ∃ R, valF c = R := ⟨_, rfl⟩
  have HR := Lib.hid hR
  rw [hR]
  clear hR
  go_enter Tryz.func52, Tryz.ntmps52
  go_wp2
  go_loopw [3] (fun s3 wx => ∃ i : Nat, s3 = .int .i64 (i : Nat) ∧ i ≤ 16 ∧ Hid (valGo c (16 - i) i = R) ∧ wx = w) (fun s3 _ => 16 - (intOf s3).toNat)
  case atStart => exact ⟨0, rfl, by omega, HR, rfl⟩
  case round =>
    obtain ⟨i, rfl, hi, HG, rfl⟩ := hrel
    by_cases hlt : i < 16
    · have g1 : decide ((i : Int) < 16) = true := by simp; omega
      have g1' : decide (i < 16) = true := by simpa using hlt
      have hzL : i < (⟨#[48, 49, 50, 51, 52, 53, 54, 55, 56, 57, 97, 98, 99, 100, 101, 102]⟩ : ByteArray).size := hlt
      have hzU : i < (⟨#[48, 49, 50, 51, 52, 53, 54, 55, 56, 57, 65, 66, 67, 68, 69, 70]⟩ : ByteArray).size := hlt
      obtain ⟨x, hx⟩ : ∃ x, (⟨#[48, 49, 50, 51, 52, 53, 54, 55, 56, 57, 97, 98, 99, 100, 101, 102]⟩ : ByteArray)[i]'hzL = x := ⟨_, rfl⟩
      obtain ⟨y, hy⟩ : ∃ y, (⟨#[48, 49, 50, 51, 52, 53, 54, 55, 56, 57, 65, 66, 67, 68, 69, 70]⟩ : ByteArray)[i]'hzU = y := ⟨_, rfl⟩
      have hst := HG.out
      rw [show 16 - i = (16 - (i + 1)) + 1 by omega] at hst
      unfold valGo at hst
      rw [← hexL_at ⟨i, hlt⟩, ← hexU_at ⟨i, hlt⟩] at hst
      simp only [hx, hy] at hst
      have HST := Lib.hid hst
      clear hst HG HR
      go_wp2
      case roundEnd =>
        rename_i q1 q2 q3
        have hn : ¬ (c = x ∨ c = y) := by
          simp only [beq_eq_false_iff_ne, ne_eq] at q3
          rintro (e | e)
          · exact q3.1 (by rw [e])
          · exact q3.2 (by rw [e])
        have HN : Hid (valGo c (16 - (i + 1)) (i + 1) = R) := Lib.hid (by have h := HST.out; rwa [if_neg hn] at h)
        go_roundw
        case rel => exact ⟨i + 1, by go_num, by omega, HN, trivial⟩
        case measure => simp [intOf]; omega
      · rename_i q1 q2
        have hc : c = x := UInt8.toNat_inj.1 (by omega)
        have HN : Hid (i = R) := Lib.hid (by have h := HST.out; rwa [if_pos (.inl hc)] at h)
        go_ret
        exact ⟨by rw [← HN.out]; rfl, rfl⟩
      · rename_i q1 q2 q3
        have hc : c = x ∨ c = y := by
          simp only [beq_iff_eq] at q3
          rcases q3 with e | e
          · exact .inl (UInt8.toNat_inj.1 (by omega))
          · exact .inr (UInt8.toNat_inj.1 (by omega))
        have HN : Hid (i = R) := Lib.hid (by have h := HST.out; rwa [if_pos hc] at h)
        go_ret
        exact ⟨by rw [← HN.out]; rfl, rfl⟩
    · obtain rfl : i = 16 := by omega
      have HN : Hid (R = 99) := Lib.hid HG.out.symm
      clear HG HR
      go_wp2
      go_ret
      exact ⟨by rw [HN.out]; rfl, rfl⟩
end Go.Proofs.YtolkfhiominjbaaGreatDoor
namespace Go.Proofs.YtolkfhiominjbaaGreatDoor
open Go.RowKit Go.Lib
set_option maxRecDepth 100000
set_option maxHeartbeats 4000000
def signsL : List (List UInt8) := [[33, 61], [58, 61], [58, 58], [46, 46], [47, 47], [60, 61], [60, 60], [62, 61], [62, 62], [40], [41], [91], [93], [123], [125], [44], [59], [46], [47], [64], [42], [43], [45], [61], [60], [62], [124], [63]]
/-- The first of the reference's signs that a text begins with. -/
def signR (l : List UInt8) : List UInt8 := (signsL.find? fun p => Lib.hasPrefix l p).getD []
theorem preTwo (c d : UInt8) (t : List UInt8) (x y : UInt8) : Lib.hasPrefix (c :: d :: t) [x, y] = decide (c = x ∧ d = y) := by
  rw [pre_take, Bool.eq_iff_iff]
  simp
theorem preOne (c : UInt8) (t : List UInt8) (x : UInt8) : Lib.hasPrefix (c :: t) [x] = decide (c = x) := by
  rw [pre_take, Bool.eq_iff_iff]
  simp
theorem signs_short : ∀ p ∈ signsL, (∃ x, p = [x]) ∨ ∃ x y, p = [x, y] := by
  intro p hp
  have h : ∀ p ∈ signsL, p.length = 1 ∨ p.length = 2 := by decide +kernel
  rcases p with _ | ⟨x, _ | ⟨y, _ | ⟨z, p⟩⟩⟩
  · have := h _ hp
    simp at this
  · exact .inl ⟨x, rfl⟩
  · exact .inr ⟨x, y, rfl⟩
  · have := h _ hp
    simp only [List.length_cons] at this
    omega
theorem signR_one (c : UInt8) : signR [c] = signF [c] := by
  have h : ∀ n : Fin 256, signR [UInt8.ofNat n.val] = signF [UInt8.ofNat n.val] := by decide +kernel
  have := h ⟨c.toNat, c.toNat_lt⟩
  simpa using this
theorem sign_is : ∀ l : List UInt8, signR l = signF l
  | [] => by decide +kernel
  | [c] => signR_one c
  | c :: d :: t => by
    by_cases h : twosL.contains [c, d] = true
    · have hs : signF (c :: d :: t) = [c, d] := by
        show (if twosL.contains [c, d] = true then [c, d] else oneF c) = _
        rw [if_pos h]
      rw [hs]
      unfold twosL at h
      simp only [List.contains_eq_mem, List.mem_cons, List.not_mem_nil, or_false, decide_eq_true_eq, List.cons.injEq, and_true] at h
      rcases h with ⟨rfl, rfl⟩ | ⟨rfl, rfl⟩ | ⟨rfl, rfl⟩ | ⟨rfl, rfl⟩ | ⟨rfl, rfl⟩ | ⟨rfl, rfl⟩ | ⟨rfl, rfl⟩ | ⟨rfl, rfl⟩ | ⟨rfl, rfl⟩ <;> rfl
    · have hs : signF (c :: d :: t) = signF [c] := by
        show (if twosL.contains [c, d] = true then [c, d] else oneF c) = oneF c
        rw [if_neg h]
      rw [hs, ← signR_one c]
      unfold signR
      congr 1
      have hall : ∀ p ∈ signsL, Lib.hasPrefix (c :: d :: t) p = Lib.hasPrefix [c] p := by
        intro p hp
        rcases signs_short p hp with ⟨x, rfl⟩ | ⟨x, y, rfl⟩
        · rw [preOne, preOne]
        · rw [preTwo]
          have h1 : Lib.hasPrefix [c] [x, y] = false := by
            rw [pre_take]
            rfl
          rw [h1]
          refine decide_eq_false fun e => h ?_
          rw [e.1, e.2]
          have h2 : ∀ p ∈ signsL, p.length = 2 → twosL.contains p = true := by decide +kernel
          exact h2 _ hp rfl
      clear h hs
      generalize signsL = S at hall
      induction S with
      | nil => rfl
      | cons p S ih =>
        rw [List.find?_cons, List.find?_cons, hall p (.head _)]
        cases Lib.hasPrefix [c] p with
        | true => rfl
        | false => exact ih fun q hq => hall q (.tail _ hq)
end Go.Proofs.YtolkfhiominjbaaGreatDoor
