/- The reference: leaves, where one kind lies in another, counts; the least of few kinds. No condition beyond what the theorems state. -/
import Derived.Test.YtjpopmgnhgancaaDoorTypes
import Derived.Test.YtjpopmgnhgancaaDoorRegWords
import Derived.Lib.Builder
namespace Go.Proofs.YtjpopmgnhgancaaDoor
def leavesL : Nat → List Nat
  | 0 => []
  | 2 => [1, 2]
  | 6 => [1, 2, 3, 4, 5]
  | 12 => [7, 8, 9, 10, 11]
  | 13 => [1, 2, 3, 4, 5, 7, 8, 9, 10, 11, 13]
  | i => [i]
def subL (l m : List Nat) : Bool := l.all fun x => m.contains x
def liesR (a b : TK) : Bool := subL (leavesL a.i) (leavesL b.i) && (decide (b.n = []) || (decide (a.i = 0) || (decide (a.n = b.n) && decide (a.i = b.i))))
theorem lieB_named {i : Nat} {n : List UInt8} (hn : n ≠ []) (j : Nat) : i = 8 ∨ i = 9 → lieB ⟨i, n⟩ ⟨j, []⟩ = lieB ⟨i, []⟩ ⟨j, []⟩ := by
  rintro (rfl | rfl)
  · have e1 : (⟨8, n⟩ : TK) ≠ ⟨j, []⟩ := fun h => hn (by cases h; rfl)
    have e2 : (⟨8, n⟩ : TK) ≠ anyK := fun h => hn (by cases h)
    have e3 : upK ⟨8, n⟩ = ⟨8, []⟩ := by simp only [upK, if_neg hn]
    have e4 : farK ⟨8, n⟩ = 3 := by simp only [farK, if_neg hn]
    rw [lieB, if_neg (show ¬ (_ : Nat) = 0 by simp), e4, chaseK, if_neg e1, if_neg e2, e3]
    rfl
  · have e1 : (⟨9, n⟩ : TK) ≠ ⟨j, []⟩ := fun h => hn (by cases h; rfl)
    have e2 : (⟨9, n⟩ : TK) ≠ anyK := fun h => hn (by cases h)
    have e3 : upK ⟨9, n⟩ = ⟨9, []⟩ := by simp only [upK, if_neg hn]
    have e4 : farK ⟨9, n⟩ = 3 := by simp only [farK, if_neg hn]
    rw [lieB, if_neg (show ¬ (_ : Nat) = 0 by simp), e4, chaseK, if_neg e1, if_neg e2, e3]
    rfl
theorem up_nameless (k : TK) : (upK k).n = [] := by
  unfold upK
  split <;> rfl
theorem lieB_to_named {a : TK} (ha : GK a) {j : Nat} {m : List UInt8} (hm : m ≠ []) : lieB a ⟨j, m⟩ = (decide (a.i = 0) || decide (a = ⟨j, m⟩)) := by
  by_cases h0 : a.i = 0
  · rw [lieB, if_pos h0, decide_eq_true h0, Bool.true_or]
  · rw [decide_eq_false h0, Bool.false_or]
    by_cases e : a = ⟨j, m⟩
    · rw [decide_eq_true e]
      exact (lieB_is ha).2 (.inr (e ▸ abv_refl a))
    · rw [decide_eq_false e]
      cases h : lieB a ⟨j, m⟩ with
      | false => rfl
      | true =>
        exfalso
        rcases (lieB_is ha).1 h with h | ⟨q, hq⟩
        · exact h0 h
        · cases q with
          | zero => exact e hq
          | succ q =>
            have := up_nameless (Nat.repeat upK q a)
            rw [show upK (Nat.repeat upK q a) = ⟨j, m⟩ from hq] at this
            exact hm this
theorem lies_plain : ∀ i j : Fin 14, liesR ⟨i.1, []⟩ ⟨j.1, []⟩ = lieB ⟨i.1, []⟩ ⟨j.1, []⟩ := by decide
theorem sub_self89 : subL (leavesL 8) (leavesL 8) = true ∧ subL (leavesL 9) (leavesL 9) = true := by decide
theorem liesR_is {a b : TK} (ha : GK a) (hb : GK b) : liesR a b = lieB a b := by
  obtain ⟨i, n⟩ := a
  obtain ⟨j, m⟩ := b
  have hi : i < 14 := by have := ha.1; simp only at this; omega
  have hj : j < 14 := by have := hb.1; simp only at this; omega
  by_cases hm : m = []
  · subst hm
    have e : liesR ⟨i, n⟩ ⟨j, []⟩ = liesR ⟨i, []⟩ ⟨j, []⟩ := by simp [liesR]
    rw [e, lies_plain ⟨i, hi⟩ ⟨j, hj⟩]
    by_cases hn : n = []
    · subst hn; rfl
    · rw [lieB_named hn j (ha.2 hn)]
  · rw [lieB_to_named ha hm]
    have hj89 := hb.2 hm
    simp only at hj89
    unfold liesR
    rw [decide_eq_false (by simpa using hm), Bool.false_or]
    by_cases h0 : i = 0
    · subst h0; rfl
    · simp only [h0, decide_false, Bool.false_or]
      by_cases e : n = m ∧ i = j
      · obtain ⟨rfl, rfl⟩ := e
        simp only [decide_true, Bool.and_self, Bool.and_true]
        rcases hj89 with rfl | rfl
        · exact sub_self89.1
        · exact sub_self89.2
      · have e1 : decide ((⟨i, n⟩ : TK) = ⟨j, m⟩) = false := by
          rw [decide_eq_false_iff_not]
          intro h; cases h; exact e ⟨rfl, rfl⟩
        have e2 : (decide (n = m) && decide (i = j)) = false := by
          rw [Bool.and_eq_false_iff, decide_eq_false_iff_not, decide_eq_false_iff_not]
          by_cases h : n = m
          · right; exact fun h' => e ⟨h, h'⟩
          · left; exact h
        rw [e1, e2, Bool.and_false]
/-- The first of few in which both lie, else the widest. -/
def firstIn (a b : TK) : List TK → TK
  | [] => anyK
  | c :: cs => if lieB a c && lieB b c then c else firstIn a b cs
def leastK (a b : TK) : TK := if a.i = 0 then b else if b.i = 0 then a else firstIn a b [a, b, ⟨a.i, []⟩, ⟨2, []⟩, ⟨6, []⟩, ⟨12, []⟩]
theorem least_plain : ∀ i j : Fin 14, leastK ⟨i.1, []⟩ ⟨j.1, []⟩ = withK ⟨i.1, []⟩ ⟨j.1, []⟩ := by decide
theorem gk_plain {i : Nat} (h : i < 14) : GK ⟨i, []⟩ := ⟨by simp only; omega, fun h => absurd rfl h⟩
/-- A named kind climbs as one without a name, but where the other one is itself. -/
theorem with_named {i : Nat} {n : List UInt8} (hn : n ≠ []) (h89 : i = 8 ∨ i = 9) {b : TK} (hb : GK b) (h0 : b.i ≠ 0) : withK ⟨i, n⟩ b = if b = ⟨i, n⟩ then b else withK ⟨i, []⟩ b := by
  have hl : lieB b ⟨i, n⟩ = decide (b = ⟨i, n⟩) := by rw [lieB_to_named hb hn, decide_eq_false h0, Bool.false_or]
  have e3 : upK ⟨i, n⟩ = ⟨i, []⟩ := by simp only [upK, if_neg hn]
  have hi : ¬ i = 0 := by omega
  have e4 : farK ⟨i, n⟩ = farK ⟨i, []⟩ + 1 := by rcases h89 with rfl | rfl <;> simp only [farK, if_neg hn] <;> rfl
  rw [withK, if_neg hi, e4, climbK, hl, e3]
  by_cases e : b = ⟨i, n⟩
  · rw [decide_eq_true e, if_pos rfl, if_pos e]; exact e.symm
  · rw [decide_eq_false e, if_neg (by decide), if_neg e, withK, if_neg hi]
theorem climb_unnamed {j : Nat} {m : List UInt8} (hm : m ≠ []) (h89 : j = 8 ∨ j = 9) : ∀ (f : Nat) (k : TK), k.n = [] → climbK f k ⟨j, m⟩ = climbK f k ⟨j, []⟩
  | 0, _, _ => rfl
  | f + 1, k, hk => by
    obtain ⟨i, n⟩ := k
    simp only at hk
    subst hk
    rw [climbK, climbK, lieB_named hm i h89, climb_unnamed hm h89 f _ (up_nameless _)]
theorem with_unnamed {i j : Nat} {m : List UInt8} (hm : m ≠ []) (h89 : j = 8 ∨ j = 9) (hi : i ≠ 0) : withK ⟨i, []⟩ ⟨j, m⟩ = withK ⟨i, []⟩ ⟨j, []⟩ := by
  rw [withK, withK, if_neg hi, if_neg hi, climb_unnamed hm h89 _ _ rfl]
theorem un8 : ∀ i : Fin 14, i.1 ≠ 0 → ∀ j : Fin 14, (j.1 = 8 ∨ j.1 = 9) → firstIn ⟨i.1, []⟩ ⟨j.1, []⟩ [⟨i.1, []⟩, ⟨i.1, []⟩, ⟨2, []⟩, ⟨6, []⟩, ⟨12, []⟩] = withK ⟨i.1, []⟩ ⟨j.1, []⟩ ∧ firstIn ⟨j.1, []⟩ ⟨i.1, []⟩ [⟨i.1, []⟩, ⟨j.1, []⟩, ⟨2, []⟩, ⟨6, []⟩, ⟨12, []⟩] = withK ⟨j.1, []⟩ ⟨i.1, []⟩ := by decide
theorem first_right {i j : Nat} {m : List UInt8} (hm : m ≠ []) (h89 : j = 8 ∨ j = 9) : ∀ cs : List TK, (∀ c ∈ cs, c.n = []) → firstIn ⟨i, []⟩ ⟨j, m⟩ cs = firstIn ⟨i, []⟩ ⟨j, []⟩ cs
  | [], _ => rfl
  | c :: cs, h => by
    obtain ⟨x, n⟩ := c
    have := h ⟨x, n⟩ (List.mem_cons_self ..)
    simp only at this
    subst this
    rw [firstIn, firstIn, lieB_named hm x h89, first_right hm h89 cs fun c hc => h c (List.mem_cons_of_mem _ hc)]
theorem first_left {i j : Nat} {m : List UInt8} (hm : m ≠ []) (h89 : j = 8 ∨ j = 9) (n : List UInt8) (hn : n = [] ∨ (n ≠ [] ∧ (i = 8 ∨ i = 9))) : ∀ cs : List TK, (∀ c ∈ cs, c.n = []) → firstIn ⟨j, m⟩ ⟨i, n⟩ cs = firstIn ⟨j, []⟩ ⟨i, []⟩ cs
  | [], _ => rfl
  | c :: cs, h => by
    obtain ⟨x, q⟩ := c
    have := h ⟨x, q⟩ (List.mem_cons_self ..)
    simp only at this
    subst this
    have e : lieB ⟨i, n⟩ ⟨x, []⟩ = lieB ⟨i, []⟩ ⟨x, []⟩ := by
      rcases hn with rfl | ⟨hn, h⟩
      · rfl
      · exact lieB_named hn x h
    rw [firstIn, firstIn, lieB_named hm x h89, e, first_left hm h89 n hn cs fun c hc => h c (List.mem_cons_of_mem _ hc)]
theorem nn89 : ∀ i j : Fin 14, (i.1 = 8 ∨ i.1 = 9) → (j.1 = 8 ∨ j.1 = 9) → firstIn ⟨i.1, []⟩ ⟨j.1, []⟩ [⟨i.1, []⟩, ⟨2, []⟩, ⟨6, []⟩, ⟨12, []⟩] = withK ⟨i.1, []⟩ ⟨j.1, []⟩ := by decide
theorem mem_un (c : TK) (L : List Nat) (h : c ∈ L.map fun i => (⟨i, []⟩ : TK)) : c.n = [] := by
  obtain ⟨i, _, rfl⟩ := List.mem_map.1 h
  rfl
theorem leastK_is {a b : TK} (ha : GK a) (hb : GK b) : leastK a b = withK a b := by
  by_cases ha0 : a.i = 0
  · rw [leastK, if_pos ha0, withK, if_pos ha0]
  by_cases hb0 : b.i = 0
  · rw [leastK, if_neg ha0, if_pos hb0, with_comm ha hb, withK, if_pos hb0]
  rw [leastK, if_neg ha0, if_neg hb0]
  obtain ⟨i, n⟩ := a
  obtain ⟨j, m⟩ := b
  have hi : i < 14 := by have := ha.1; simp only at this; omega
  have hj : j < 14 := by have := hb.1; simp only at this; omega
  simp only at ha0 hb0 ⊢
  by_cases hn : n = []
  · subst hn
    by_cases hm : m = []
    · subst hm
      have := least_plain ⟨i, hi⟩ ⟨j, hj⟩
      rw [leastK, if_neg ha0, if_neg hb0] at this
      exact this
    · have h89 := hb.2 hm
      simp only at h89
      rw [with_unnamed hm h89 ha0, ← (un8 ⟨i, hi⟩ ha0 ⟨j, hj⟩ h89).1, ← first_right hm h89 _ (fun c hc => mem_un c [i, i, 2, 6, 12] (by simpa using hc))]
      have hf : lieB ⟨i, []⟩ ⟨j, m⟩ = false := by
        rw [lieB_to_named ha hm, decide_eq_false ha0, Bool.false_or, decide_eq_false_iff_not]
        intro h; cases h; exact hm rfl
      conv => lhs; rw [firstIn]
      conv => rhs; rw [firstIn]
      split
      · rfl
      · rw [firstIn, hf, Bool.false_and, if_neg (by decide)]
  · have h8 := ha.2 hn
    simp only at h8
    rw [with_named hn h8 hb hb0]
    by_cases e : (⟨j, m⟩ : TK) = ⟨i, n⟩
    · rw [if_pos e, firstIn, ← e, (lieB_is hb).2 (lie_refl _)]
      rfl
    · rw [if_neg e]
      have hf : lieB ⟨j, m⟩ ⟨i, n⟩ = false := by
        rw [lieB_to_named hb hn, decide_eq_false hb0, Bool.false_or, decide_eq_false_iff_not]
        exact e
      rw [firstIn, hf, Bool.and_false, if_neg (by decide)]
      by_cases hm : m = []
      · subst hm
        rw [first_left hn h8 [] (.inl rfl) _ (fun c hc => mem_un c [j, i, 2, 6, 12] (by simpa using hc)), (un8 ⟨j, hj⟩ hb0 ⟨i, hi⟩ h8).2]
      · have h9 := hb.2 hm
        simp only at h9
        have hf2 : lieB ⟨i, n⟩ ⟨j, m⟩ = false := by
          rw [lieB_to_named ha hm, decide_eq_false ha0, Bool.false_or, decide_eq_false_iff_not]
          exact fun h => e h.symm
        rw [firstIn, hf2, Bool.false_and, if_neg (by decide), first_left hn h8 m (.inr ⟨hm, h9⟩) _ (fun c hc => mem_un c [i, 2, 6, 12] (by simpa using hc)), nn89 ⟨i, hi⟩ ⟨j, hj⟩ h8 h9, with_unnamed hm h9 ha0]
end Go.Proofs.YtjpopmgnhgancaaDoor
namespace Go.Proofs.YtjpopmgnhgancaaDoor
open Go.RowKit Go.Lib
set_option maxRecDepth 100000
set_option maxHeartbeats 8000000
def cntR (z : Bool) (o : Nat) : Bool × Bool × Bool := if z then (true, false, false) else (decide (o = 1) || decide (o = 3), true, decide (o = 2) || decide (o = 3))
def Ct0Sp (ga _ki : Nat) (_n : ByteArray) : List Sp := [.val (.pointer (some ⟨ga, 2, none⟩)), .val (.int .i64 0), .val (.bool false), .val (.bool false), .val (.pointer (some ⟨ga, 2, none⟩)), .val (.int .i64 0), .val (.bool false), .val (.bool false), .val (.pointer (some ⟨ga, 2, none⟩)), .val (.int .i64 0), .val (.bool false), .val (.bool false), .val (.pointer (some ⟨ga, 2, none⟩)), .val (.int .i64 0), .val (.bool false), .val (.bool false), .val (.bool false), .val (.bool true), .val (.bool false)]
set_option maxHeartbeats 16000000 in
theorem Ct0_region (ga ki : Nat) (n : ByteArray) (w0 : World) {W : World} {Q : Exit → Act → World → Prop} {a0 : Act} (hsz : a0.tmps.size = 24) (f1 : a0.tmps.getD 1 undef = .pointer (some ⟨ga, 0, none⟩)) (hb0 : Below w0.heap.size w0 W) (C0 : W.cell? ⟨ga, 0, none⟩ = some (.int .i64 (ki : Nat))) (C1 : W.cell? ⟨ga, 1, none⟩ = some (.string n)) (C2 : W.cell? ⟨ga, 2, none⟩ = some (.int .i64 0)) 
    (hQ : ∀ (A : Act) (w : World), A.defers = a0.defers → A.tmps.size = 24 → A.tmps.getD 2 undef = .bool false → A.tmps.getD 3 undef = .bool true → A.tmps.getD 4 undef = .bool false → Below w0.heap.size w0 w → Q .normal A w) :
    Code.wp Tryd.prog ((Tryd.f37.body.bind (regionOf 3)).getD .skip) Q a0 W := by
  conv => arg 2; whnf
  (try simp only [List.append_eq, List.cons_append, List.nil_append])
  refine wp_region_plan (by kernel_rfl) (by kernel_rfl) (by kernel_rfl) (by rw [hsz]; kernel_rfl) (fun w => Below w0.heap.size w0 w ∧ Below W.heap.size W w) (fun w w' => Below w.heap.size w w') (fun i w v => ((Ct0Sp ga ki n).getD i .any).holds w v) ⟨bdr hb0, bdr (Below.refl _ _)⟩ (fun w w' j v hb h => Sp.mono _ hb h) ?_ ?_ ?_
  · intro i w v hn h
    have hge := gpAll_ge (by kernel_rfl) hn
    have e : (Ct0Sp ga ki n).getD i .any = .any := by rw [List.getD_eq_getElem?_getD, List.getElem?_eq_none (by exact hge)]; rfl
    rw [e]
    trivial
  · intro i o ho a w hI hk hd
    have hi : i < 19 := (Array.getElem?_eq_some_iff.1 ho).1
    have h1 : a.tmps.getD 1 undef = .pointer (some ⟨ga, 0, none⟩) := (hk.2.2 1 (gpFree_ne (by kernel_rfl))).trans f1
    have c0 : w.cell? ⟨ga, 0, none⟩ = some (.int .i64 (ki : Nat)) := cell_call C0 hI.2
    have c1 : w.cell? ⟨ga, 1, none⟩ = some (.string n) := cell_call C1 hI.2
    have c2 : w.cell? ⟨ga, 2, none⟩ = some (.int .i64 0) := cell_call C2 hI.2
    rcases (by omega : i = 0 ∨ i = 1 ∨ i = 2 ∨ i = 3 ∨ i = 4 ∨ i = 5 ∨ i = 6 ∨ i = 7 ∨ i = 8 ∨ i = 9 ∨ i = 10 ∨ i = 11 ∨ i = 12 ∨ i = 13 ∨ i = 14 ∨ i = 15 ∨ i = 16 ∨ i = 17 ∨ i = 18) with rfl | rfl | rfl | rfl | rfl | rfl | rfl | rfl | rfl | rfl | rfl | rfl | rfl | rfl | rfl | rfl | rfl | rfl | rfl
    · simp only [List.getElem?_toArray, List.getElem?_cons_zero, Option.some.injEq] at ho
      subst ho
      rw [if_pos (gp_none rfl)]
      intro K hK
      go_simp
      exact hK _ _ (Below.refl _ _) hI rfl
    · simp only [List.getElem?_toArray, List.getElem?_cons_zero, List.getElem?_cons_succ, Option.some.injEq] at ho
      subst ho
      have h8 : a.tmps.getD 8 undef = .pointer (some ⟨ga, 2, none⟩) := hd ⟨0, .data⟩ (by simp) rfl
      rw [if_pos (gp_none rfl)]
      intro K hK
      go_simp
      exact hK _ _ (Below.refl _ _) hI rfl
    · simp only [List.getElem?_toArray, List.getElem?_cons_zero, List.getElem?_cons_succ, Option.some.injEq] at ho
      subst ho
      have h9 : a.tmps.getD 9 undef = .int .i64 0 := hd ⟨1, .data⟩ (by simp) rfl
      rw [if_pos (gp_none rfl)]
      intro K hK
      go_simp
      exact hK _ _ (Below.refl _ _) hI rfl
    · simp only [List.getElem?_toArray, List.getElem?_cons_zero, List.getElem?_cons_succ, Option.some.injEq] at ho
      subst ho
      have h10 : a.tmps.getD 10 undef = .bool false := hd ⟨2, .data⟩ (by simp) rfl
      rw [if_pos (gp_none rfl)]
      intro K hK
      go_simp
      exact hK _ _ (Below.refl _ _) hI rfl
    · simp only [List.getElem?_toArray, List.getElem?_cons_zero, List.getElem?_cons_succ, Option.some.injEq] at ho
      subst ho
      have h11 : a.tmps.getD 11 undef = .bool false := hd ⟨3, .guard⟩ (by simp) rfl
      have hgv : gpVal _ a 3 = .bool false := hd ⟨3, .guard⟩ (by simp) rfl
      rw [if_pos (by rw [gp_some rfl hgv]; decide)]
      clear hgv
      intro K hK
      go_simp
      exact hK _ _ (Below.refl _ _) hI rfl
    · simp only [List.getElem?_toArray, List.getElem?_cons_zero, List.getElem?_cons_succ, Option.some.injEq] at ho
      subst ho
      have h12 : a.tmps.getD 12 undef = .pointer (some ⟨ga, 2, none⟩) := hd ⟨4, .data⟩ (by simp) rfl
      have h11 : a.tmps.getD 11 undef = .bool false := hd ⟨3, .guard⟩ (by simp) rfl
      have hgv : gpVal _ a 3 = .bool false := hd ⟨3, .guard⟩ (by simp) rfl
      rw [if_pos (by rw [gp_some rfl hgv]; decide)]
      clear hgv
      intro K hK
      go_simp
      exact hK _ _ (Below.refl _ _) hI rfl
    · simp only [List.getElem?_toArray, List.getElem?_cons_zero, List.getElem?_cons_succ, Option.some.injEq] at ho
      subst ho
      have h13 : a.tmps.getD 13 undef = .int .i64 0 := hd ⟨5, .data⟩ (by simp) rfl
      have h11 : a.tmps.getD 11 undef = .bool false := hd ⟨3, .guard⟩ (by simp) rfl
      have hgv : gpVal _ a 3 = .bool false := hd ⟨3, .guard⟩ (by simp) rfl
      rw [if_pos (by rw [gp_some rfl hgv]; decide)]
      clear hgv
      intro K hK
      go_simp
      exact hK _ _ (Below.refl _ _) hI rfl
    · simp only [List.getElem?_toArray, List.getElem?_cons_zero, List.getElem?_cons_succ, Option.some.injEq] at ho
      subst ho
      have h11 : a.tmps.getD 11 undef = .bool false := hd ⟨3, .data⟩ (by simp) rfl
      have h14 : a.tmps.getD 14 undef = .bool false := hd ⟨6, .data⟩ (by simp) rfl
      rw [if_pos (gp_none rfl)]
      intro K hK
      go_simp
      exact hK _ _ (Below.refl _ _) hI rfl
    · simp only [List.getElem?_toArray, List.getElem?_cons_zero, List.getElem?_cons_succ, Option.some.injEq] at ho
      subst ho
      rw [if_pos (gp_none rfl)]
      intro K hK
      go_simp
      exact hK _ _ (Below.refl _ _) hI rfl
    · simp only [List.getElem?_toArray, List.getElem?_cons_zero, List.getElem?_cons_succ, Option.some.injEq] at ho
      subst ho
      have h16 : a.tmps.getD 16 undef = .pointer (some ⟨ga, 2, none⟩) := hd ⟨8, .data⟩ (by simp) rfl
      rw [if_pos (gp_none rfl)]
      intro K hK
      go_simp
      exact hK _ _ (Below.refl _ _) hI rfl
    · simp only [List.getElem?_toArray, List.getElem?_cons_zero, List.getElem?_cons_succ, Option.some.injEq] at ho
      subst ho
      have h17 : a.tmps.getD 17 undef = .int .i64 0 := hd ⟨9, .data⟩ (by simp) rfl
      rw [if_pos (gp_none rfl)]
      intro K hK
      go_simp
      exact hK _ _ (Below.refl _ _) hI rfl
    · simp only [List.getElem?_toArray, List.getElem?_cons_zero, List.getElem?_cons_succ, Option.some.injEq] at ho
      subst ho
      have h18 : a.tmps.getD 18 undef = .bool false := hd ⟨10, .data⟩ (by simp) rfl
      rw [if_pos (gp_none rfl)]
      intro K hK
      go_simp
      exact hK _ _ (Below.refl _ _) hI rfl
    · simp only [List.getElem?_toArray, List.getElem?_cons_zero, List.getElem?_cons_succ, Option.some.injEq] at ho
      subst ho
      have h19 : a.tmps.getD 19 undef = .bool false := hd ⟨11, .guard⟩ (by simp) rfl
      have hgv : gpVal _ a 11 = .bool false := hd ⟨11, .guard⟩ (by simp) rfl
      rw [if_pos (by rw [gp_some rfl hgv]; decide)]
      clear hgv
      intro K hK
      go_simp
      exact hK _ _ (Below.refl _ _) hI rfl
    · simp only [List.getElem?_toArray, List.getElem?_cons_zero, List.getElem?_cons_succ, Option.some.injEq] at ho
      subst ho
      have h20 : a.tmps.getD 20 undef = .pointer (some ⟨ga, 2, none⟩) := hd ⟨12, .data⟩ (by simp) rfl
      have h19 : a.tmps.getD 19 undef = .bool false := hd ⟨11, .guard⟩ (by simp) rfl
      have hgv : gpVal _ a 11 = .bool false := hd ⟨11, .guard⟩ (by simp) rfl
      rw [if_pos (by rw [gp_some rfl hgv]; decide)]
      clear hgv
      intro K hK
      go_simp
      exact hK _ _ (Below.refl _ _) hI rfl
    · simp only [List.getElem?_toArray, List.getElem?_cons_zero, List.getElem?_cons_succ, Option.some.injEq] at ho
      subst ho
      have h21 : a.tmps.getD 21 undef = .int .i64 0 := hd ⟨13, .data⟩ (by simp) rfl
      have h19 : a.tmps.getD 19 undef = .bool false := hd ⟨11, .guard⟩ (by simp) rfl
      have hgv : gpVal _ a 11 = .bool false := hd ⟨11, .guard⟩ (by simp) rfl
      rw [if_pos (by rw [gp_some rfl hgv]; decide)]
      clear hgv
      intro K hK
      go_simp
      exact hK _ _ (Below.refl _ _) hI rfl
    · simp only [List.getElem?_toArray, List.getElem?_cons_zero, List.getElem?_cons_succ, Option.some.injEq] at ho
      subst ho
      have h19 : a.tmps.getD 19 undef = .bool false := hd ⟨11, .data⟩ (by simp) rfl
      have h22 : a.tmps.getD 22 undef = .bool false := hd ⟨14, .data⟩ (by simp) rfl
      rw [if_pos (gp_none rfl)]
      intro K hK
      go_simp
      exact hK _ _ (Below.refl _ _) hI rfl
    · simp only [List.getElem?_toArray, List.getElem?_cons_zero, List.getElem?_cons_succ, Option.some.injEq] at ho
      subst ho
      have h15 : a.tmps.getD 15 undef = .bool false := hd ⟨7, .data⟩ (by simp) rfl
      rw [if_pos (gp_none rfl)]
      intro K hK
      go_simp
      exact hK _ _ (Below.refl _ _) hI rfl
    · simp only [List.getElem?_toArray, List.getElem?_cons_zero, List.getElem?_cons_succ, Option.some.injEq] at ho
      subst ho
      rw [if_pos (gp_none rfl)]
      intro K hK
      go_simp
      exact hK _ _ (Below.refl _ _) hI rfl
    · simp only [List.getElem?_toArray, List.getElem?_cons_zero, List.getElem?_cons_succ, Option.some.injEq] at ho
      subst ho
      have h23 : a.tmps.getD 23 undef = .bool false := hd ⟨15, .data⟩ (by simp) rfl
      rw [if_pos (gp_none rfl)]
      intro K hK
      go_simp
      exact hK _ _ (Below.refl _ _) hI rfl
  · intro a w hI hk hs
    exact hQ a w hk.1 (hk.2.1.trans hsz) (hs 16 (of_decide_eq_true (by kernel_rfl))) (hs 17 (of_decide_eq_true (by kernel_rfl))) (hs 18 (of_decide_eq_true (by kernel_rfl))) hI.1
theorem counts_0 (i : Nat) (n : ByteArray) (h0 : i ≠ 0) (w : World) : Calls Tryd.prog 37 #[.agg #[.int .i64 (i : Nat), .string n, .int .i64 0]] w fun e w' => e = .returned (.tuple #[.bool false, .bool true, .bool false]) ∧ Below w.heap.size w w' := by
  have g0 : (i = 0) = False := by simpa using h0
  have g0b : ((i : Int) == 0) = false := by simpa using h0
  go_enter Tryd.func37, Tryd.ntmps37
  go_wp2
  refine Ct0_region w.heap.size i n w rfl rfl (by repeat (with_reducible (first | exact Below.refl _ _ | assumption | apply ba | apply bd | apply bdr | (refine bs ?_ (by first | assumption | (simp; done) | (simp; omega))) | (refine bt ?_ (by assumption))))) (by go_simp) (by go_simp) (by go_simp) ?_
  intro A w6 hd hs h2 h3 h4 hb
  go_wp2
  exact bodyPost_ret (v := .tuple #[.bool false, .bool true, .bool false]) (by simp [results, Tryd.results37, go_sem, tmp' h2, tmp' h3, tmp' h4]) hd ⟨rfl, hb⟩
def Ct1Sp (ga _ki : Nat) (_n : ByteArray) : List Sp := [.val (.pointer (some ⟨ga, 2, none⟩)), .val (.int .i64 1), .val (.bool true), .val (.bool true), .val (undef), .val (undef), .val (undef), .val (.bool true), .val (.pointer (some ⟨ga, 2, none⟩)), .val (.int .i64 1), .val (.bool false), .val (.bool false), .val (.pointer (some ⟨ga, 2, none⟩)), .val (.int .i64 1), .val (.bool false), .val (.bool false), .val (.bool true), .val (.bool true), .val (.bool false)]
set_option maxHeartbeats 16000000 in
theorem Ct1_region (ga ki : Nat) (n : ByteArray) (w0 : World) {W : World} {Q : Exit → Act → World → Prop} {a0 : Act} (hsz : a0.tmps.size = 24) (f1 : a0.tmps.getD 1 undef = .pointer (some ⟨ga, 0, none⟩)) (hb0 : Below w0.heap.size w0 W) (C0 : W.cell? ⟨ga, 0, none⟩ = some (.int .i64 (ki : Nat))) (C1 : W.cell? ⟨ga, 1, none⟩ = some (.string n)) (C2 : W.cell? ⟨ga, 2, none⟩ = some (.int .i64 1)) 
    (hQ : ∀ (A : Act) (w : World), A.defers = a0.defers → A.tmps.size = 24 → A.tmps.getD 2 undef = .bool true → A.tmps.getD 3 undef = .bool true → A.tmps.getD 4 undef = .bool false → Below w0.heap.size w0 w → Q .normal A w) :
    Code.wp Tryd.prog ((Tryd.f37.body.bind (regionOf 3)).getD .skip) Q a0 W := by
  conv => arg 2; whnf
  (try simp only [List.append_eq, List.cons_append, List.nil_append])
  refine wp_region_plan (by kernel_rfl) (by kernel_rfl) (by kernel_rfl) (by rw [hsz]; kernel_rfl) (fun w => Below w0.heap.size w0 w ∧ Below W.heap.size W w) (fun w w' => Below w.heap.size w w') (fun i w v => ((Ct1Sp ga ki n).getD i .any).holds w v) ⟨bdr hb0, bdr (Below.refl _ _)⟩ (fun w w' j v hb h => Sp.mono _ hb h) ?_ ?_ ?_
  · intro i w v hn h
    have hge := gpAll_ge (by kernel_rfl) hn
    have e : (Ct1Sp ga ki n).getD i .any = .any := by rw [List.getD_eq_getElem?_getD, List.getElem?_eq_none (by exact hge)]; rfl
    rw [e]
    trivial
  · intro i o ho a w hI hk hd
    have hi : i < 19 := (Array.getElem?_eq_some_iff.1 ho).1
    have h1 : a.tmps.getD 1 undef = .pointer (some ⟨ga, 0, none⟩) := (hk.2.2 1 (gpFree_ne (by kernel_rfl))).trans f1
    have c0 : w.cell? ⟨ga, 0, none⟩ = some (.int .i64 (ki : Nat)) := cell_call C0 hI.2
    have c1 : w.cell? ⟨ga, 1, none⟩ = some (.string n) := cell_call C1 hI.2
    have c2 : w.cell? ⟨ga, 2, none⟩ = some (.int .i64 1) := cell_call C2 hI.2
    rcases (by omega : i = 0 ∨ i = 1 ∨ i = 2 ∨ i = 3 ∨ i = 4 ∨ i = 5 ∨ i = 6 ∨ i = 7 ∨ i = 8 ∨ i = 9 ∨ i = 10 ∨ i = 11 ∨ i = 12 ∨ i = 13 ∨ i = 14 ∨ i = 15 ∨ i = 16 ∨ i = 17 ∨ i = 18) with rfl | rfl | rfl | rfl | rfl | rfl | rfl | rfl | rfl | rfl | rfl | rfl | rfl | rfl | rfl | rfl | rfl | rfl | rfl
    · simp only [List.getElem?_toArray, List.getElem?_cons_zero, Option.some.injEq] at ho
      subst ho
      rw [if_pos (gp_none rfl)]
      intro K hK
      go_simp
      exact hK _ _ (Below.refl _ _) hI rfl
    · simp only [List.getElem?_toArray, List.getElem?_cons_zero, List.getElem?_cons_succ, Option.some.injEq] at ho
      subst ho
      have h8 : a.tmps.getD 8 undef = .pointer (some ⟨ga, 2, none⟩) := hd ⟨0, .data⟩ (by simp) rfl
      rw [if_pos (gp_none rfl)]
      intro K hK
      go_simp
      exact hK _ _ (Below.refl _ _) hI rfl
    · simp only [List.getElem?_toArray, List.getElem?_cons_zero, List.getElem?_cons_succ, Option.some.injEq] at ho
      subst ho
      have h9 : a.tmps.getD 9 undef = .int .i64 1 := hd ⟨1, .data⟩ (by simp) rfl
      rw [if_pos (gp_none rfl)]
      intro K hK
      go_simp
      exact hK _ _ (Below.refl _ _) hI rfl
    · simp only [List.getElem?_toArray, List.getElem?_cons_zero, List.getElem?_cons_succ, Option.some.injEq] at ho
      subst ho
      have h10 : a.tmps.getD 10 undef = .bool true := hd ⟨2, .data⟩ (by simp) rfl
      rw [if_pos (gp_none rfl)]
      intro K hK
      go_simp
      exact hK _ _ (Below.refl _ _) hI rfl
    · simp only [List.getElem?_toArray, List.getElem?_cons_zero, List.getElem?_cons_succ, Option.some.injEq] at ho
      subst ho
      have h11 : a.tmps.getD 11 undef = .bool true := hd ⟨3, .guard⟩ (by simp) rfl
      have hgv : gpVal _ a 3 = .bool true := hd ⟨3, .guard⟩ (by simp) rfl
      rw [if_neg (by rw [gp_some rfl hgv]; decide)]
      clear hgv
      exact ⟨rfl, Below.refl _ _⟩
    · simp only [List.getElem?_toArray, List.getElem?_cons_zero, List.getElem?_cons_succ, Option.some.injEq] at ho
      subst ho
      have h12 : a.tmps.getD 12 undef = undef := hd ⟨4, .data⟩ (by simp) rfl
      have h11 : a.tmps.getD 11 undef = .bool true := hd ⟨3, .guard⟩ (by simp) rfl
      have hgv : gpVal _ a 3 = .bool true := hd ⟨3, .guard⟩ (by simp) rfl
      rw [if_neg (by rw [gp_some rfl hgv]; decide)]
      clear hgv
      exact ⟨rfl, Below.refl _ _⟩
    · simp only [List.getElem?_toArray, List.getElem?_cons_zero, List.getElem?_cons_succ, Option.some.injEq] at ho
      subst ho
      have h13 : a.tmps.getD 13 undef = undef := hd ⟨5, .data⟩ (by simp) rfl
      have h11 : a.tmps.getD 11 undef = .bool true := hd ⟨3, .guard⟩ (by simp) rfl
      have hgv : gpVal _ a 3 = .bool true := hd ⟨3, .guard⟩ (by simp) rfl
      rw [if_neg (by rw [gp_some rfl hgv]; decide)]
      clear hgv
      exact ⟨rfl, Below.refl _ _⟩
    · simp only [List.getElem?_toArray, List.getElem?_cons_zero, List.getElem?_cons_succ, Option.some.injEq] at ho
      subst ho
      have h11 : a.tmps.getD 11 undef = .bool true := hd ⟨3, .data⟩ (by simp) rfl
      have h14 : a.tmps.getD 14 undef = undef := hd ⟨6, .data⟩ (by simp) rfl
      rw [if_pos (gp_none rfl)]
      intro K hK
      go_simp
      exact hK _ _ (Below.refl _ _) hI rfl
    · simp only [List.getElem?_toArray, List.getElem?_cons_zero, List.getElem?_cons_succ, Option.some.injEq] at ho
      subst ho
      rw [if_pos (gp_none rfl)]
      intro K hK
      go_simp
      exact hK _ _ (Below.refl _ _) hI rfl
    · simp only [List.getElem?_toArray, List.getElem?_cons_zero, List.getElem?_cons_succ, Option.some.injEq] at ho
      subst ho
      have h16 : a.tmps.getD 16 undef = .pointer (some ⟨ga, 2, none⟩) := hd ⟨8, .data⟩ (by simp) rfl
      rw [if_pos (gp_none rfl)]
      intro K hK
      go_simp
      exact hK _ _ (Below.refl _ _) hI rfl
    · simp only [List.getElem?_toArray, List.getElem?_cons_zero, List.getElem?_cons_succ, Option.some.injEq] at ho
      subst ho
      have h17 : a.tmps.getD 17 undef = .int .i64 1 := hd ⟨9, .data⟩ (by simp) rfl
      rw [if_pos (gp_none rfl)]
      intro K hK
      go_simp
      exact hK _ _ (Below.refl _ _) hI rfl
    · simp only [List.getElem?_toArray, List.getElem?_cons_zero, List.getElem?_cons_succ, Option.some.injEq] at ho
      subst ho
      have h18 : a.tmps.getD 18 undef = .bool false := hd ⟨10, .data⟩ (by simp) rfl
      rw [if_pos (gp_none rfl)]
      intro K hK
      go_simp
      exact hK _ _ (Below.refl _ _) hI rfl
    · simp only [List.getElem?_toArray, List.getElem?_cons_zero, List.getElem?_cons_succ, Option.some.injEq] at ho
      subst ho
      have h19 : a.tmps.getD 19 undef = .bool false := hd ⟨11, .guard⟩ (by simp) rfl
      have hgv : gpVal _ a 11 = .bool false := hd ⟨11, .guard⟩ (by simp) rfl
      rw [if_pos (by rw [gp_some rfl hgv]; decide)]
      clear hgv
      intro K hK
      go_simp
      exact hK _ _ (Below.refl _ _) hI rfl
    · simp only [List.getElem?_toArray, List.getElem?_cons_zero, List.getElem?_cons_succ, Option.some.injEq] at ho
      subst ho
      have h20 : a.tmps.getD 20 undef = .pointer (some ⟨ga, 2, none⟩) := hd ⟨12, .data⟩ (by simp) rfl
      have h19 : a.tmps.getD 19 undef = .bool false := hd ⟨11, .guard⟩ (by simp) rfl
      have hgv : gpVal _ a 11 = .bool false := hd ⟨11, .guard⟩ (by simp) rfl
      rw [if_pos (by rw [gp_some rfl hgv]; decide)]
      clear hgv
      intro K hK
      go_simp
      exact hK _ _ (Below.refl _ _) hI rfl
    · simp only [List.getElem?_toArray, List.getElem?_cons_zero, List.getElem?_cons_succ, Option.some.injEq] at ho
      subst ho
      have h21 : a.tmps.getD 21 undef = .int .i64 1 := hd ⟨13, .data⟩ (by simp) rfl
      have h19 : a.tmps.getD 19 undef = .bool false := hd ⟨11, .guard⟩ (by simp) rfl
      have hgv : gpVal _ a 11 = .bool false := hd ⟨11, .guard⟩ (by simp) rfl
      rw [if_pos (by rw [gp_some rfl hgv]; decide)]
      clear hgv
      intro K hK
      go_simp
      exact hK _ _ (Below.refl _ _) hI rfl
    · simp only [List.getElem?_toArray, List.getElem?_cons_zero, List.getElem?_cons_succ, Option.some.injEq] at ho
      subst ho
      have h19 : a.tmps.getD 19 undef = .bool false := hd ⟨11, .data⟩ (by simp) rfl
      have h22 : a.tmps.getD 22 undef = .bool false := hd ⟨14, .data⟩ (by simp) rfl
      rw [if_pos (gp_none rfl)]
      intro K hK
      go_simp
      exact hK _ _ (Below.refl _ _) hI rfl
    · simp only [List.getElem?_toArray, List.getElem?_cons_zero, List.getElem?_cons_succ, Option.some.injEq] at ho
      subst ho
      have h15 : a.tmps.getD 15 undef = .bool true := hd ⟨7, .data⟩ (by simp) rfl
      rw [if_pos (gp_none rfl)]
      intro K hK
      go_simp
      exact hK _ _ (Below.refl _ _) hI rfl
    · simp only [List.getElem?_toArray, List.getElem?_cons_zero, List.getElem?_cons_succ, Option.some.injEq] at ho
      subst ho
      rw [if_pos (gp_none rfl)]
      intro K hK
      go_simp
      exact hK _ _ (Below.refl _ _) hI rfl
    · simp only [List.getElem?_toArray, List.getElem?_cons_zero, List.getElem?_cons_succ, Option.some.injEq] at ho
      subst ho
      have h23 : a.tmps.getD 23 undef = .bool false := hd ⟨15, .data⟩ (by simp) rfl
      rw [if_pos (gp_none rfl)]
      intro K hK
      go_simp
      exact hK _ _ (Below.refl _ _) hI rfl
  · intro a w hI hk hs
    exact hQ a w hk.1 (hk.2.1.trans hsz) (hs 16 (of_decide_eq_true (by kernel_rfl))) (hs 17 (of_decide_eq_true (by kernel_rfl))) (hs 18 (of_decide_eq_true (by kernel_rfl))) hI.1
theorem counts_1 (i : Nat) (n : ByteArray) (h0 : i ≠ 0) (w : World) : Calls Tryd.prog 37 #[.agg #[.int .i64 (i : Nat), .string n, .int .i64 1]] w fun e w' => e = .returned (.tuple #[.bool true, .bool true, .bool false]) ∧ Below w.heap.size w w' := by
  have g0 : (i = 0) = False := by simpa using h0
  have g0b : ((i : Int) == 0) = false := by simpa using h0
  go_enter Tryd.func37, Tryd.ntmps37
  go_wp2
  refine Ct1_region w.heap.size i n w rfl rfl (by repeat (with_reducible (first | exact Below.refl _ _ | assumption | apply ba | apply bd | apply bdr | (refine bs ?_ (by first | assumption | (simp; done) | (simp; omega))) | (refine bt ?_ (by assumption))))) (by go_simp) (by go_simp) (by go_simp) ?_
  intro A w6 hd hs h2 h3 h4 hb
  go_wp2
  exact bodyPost_ret (v := .tuple #[.bool true, .bool true, .bool false]) (by simp [results, Tryd.results37, go_sem, tmp' h2, tmp' h3, tmp' h4]) hd ⟨rfl, hb⟩
def Ct2Sp (ga _ki : Nat) (_n : ByteArray) : List Sp := [.val (.pointer (some ⟨ga, 2, none⟩)), .val (.int .i64 2), .val (.bool false), .val (.bool false), .val (.pointer (some ⟨ga, 2, none⟩)), .val (.int .i64 2), .val (.bool false), .val (.bool false), .val (.pointer (some ⟨ga, 2, none⟩)), .val (.int .i64 2), .val (.bool true), .val (.bool true), .val (undef), .val (undef), .val (undef), .val (.bool true), .val (.bool false), .val (.bool true), .val (.bool true)]
set_option maxHeartbeats 16000000 in
theorem Ct2_region (ga ki : Nat) (n : ByteArray) (w0 : World) {W : World} {Q : Exit → Act → World → Prop} {a0 : Act} (hsz : a0.tmps.size = 24) (f1 : a0.tmps.getD 1 undef = .pointer (some ⟨ga, 0, none⟩)) (hb0 : Below w0.heap.size w0 W) (C0 : W.cell? ⟨ga, 0, none⟩ = some (.int .i64 (ki : Nat))) (C1 : W.cell? ⟨ga, 1, none⟩ = some (.string n)) (C2 : W.cell? ⟨ga, 2, none⟩ = some (.int .i64 2)) 
    (hQ : ∀ (A : Act) (w : World), A.defers = a0.defers → A.tmps.size = 24 → A.tmps.getD 2 undef = .bool false → A.tmps.getD 3 undef = .bool true → A.tmps.getD 4 undef = .bool true → Below w0.heap.size w0 w → Q .normal A w) :
    Code.wp Tryd.prog ((Tryd.f37.body.bind (regionOf 3)).getD .skip) Q a0 W := by
  conv => arg 2; whnf
  (try simp only [List.append_eq, List.cons_append, List.nil_append])
  refine wp_region_plan (by kernel_rfl) (by kernel_rfl) (by kernel_rfl) (by rw [hsz]; kernel_rfl) (fun w => Below w0.heap.size w0 w ∧ Below W.heap.size W w) (fun w w' => Below w.heap.size w w') (fun i w v => ((Ct2Sp ga ki n).getD i .any).holds w v) ⟨bdr hb0, bdr (Below.refl _ _)⟩ (fun w w' j v hb h => Sp.mono _ hb h) ?_ ?_ ?_
  · intro i w v hn h
    have hge := gpAll_ge (by kernel_rfl) hn
    have e : (Ct2Sp ga ki n).getD i .any = .any := by rw [List.getD_eq_getElem?_getD, List.getElem?_eq_none (by exact hge)]; rfl
    rw [e]
    trivial
  · intro i o ho a w hI hk hd
    have hi : i < 19 := (Array.getElem?_eq_some_iff.1 ho).1
    have h1 : a.tmps.getD 1 undef = .pointer (some ⟨ga, 0, none⟩) := (hk.2.2 1 (gpFree_ne (by kernel_rfl))).trans f1
    have c0 : w.cell? ⟨ga, 0, none⟩ = some (.int .i64 (ki : Nat)) := cell_call C0 hI.2
    have c1 : w.cell? ⟨ga, 1, none⟩ = some (.string n) := cell_call C1 hI.2
    have c2 : w.cell? ⟨ga, 2, none⟩ = some (.int .i64 2) := cell_call C2 hI.2
    rcases (by omega : i = 0 ∨ i = 1 ∨ i = 2 ∨ i = 3 ∨ i = 4 ∨ i = 5 ∨ i = 6 ∨ i = 7 ∨ i = 8 ∨ i = 9 ∨ i = 10 ∨ i = 11 ∨ i = 12 ∨ i = 13 ∨ i = 14 ∨ i = 15 ∨ i = 16 ∨ i = 17 ∨ i = 18) with rfl | rfl | rfl | rfl | rfl | rfl | rfl | rfl | rfl | rfl | rfl | rfl | rfl | rfl | rfl | rfl | rfl | rfl | rfl
    · simp only [List.getElem?_toArray, List.getElem?_cons_zero, Option.some.injEq] at ho
      subst ho
      rw [if_pos (gp_none rfl)]
      intro K hK
      go_simp
      exact hK _ _ (Below.refl _ _) hI rfl
    · simp only [List.getElem?_toArray, List.getElem?_cons_zero, List.getElem?_cons_succ, Option.some.injEq] at ho
      subst ho
      have h8 : a.tmps.getD 8 undef = .pointer (some ⟨ga, 2, none⟩) := hd ⟨0, .data⟩ (by simp) rfl
      rw [if_pos (gp_none rfl)]
      intro K hK
      go_simp
      exact hK _ _ (Below.refl _ _) hI rfl
    · simp only [List.getElem?_toArray, List.getElem?_cons_zero, List.getElem?_cons_succ, Option.some.injEq] at ho
      subst ho
      have h9 : a.tmps.getD 9 undef = .int .i64 2 := hd ⟨1, .data⟩ (by simp) rfl
      rw [if_pos (gp_none rfl)]
      intro K hK
      go_simp
      exact hK _ _ (Below.refl _ _) hI rfl
    · simp only [List.getElem?_toArray, List.getElem?_cons_zero, List.getElem?_cons_succ, Option.some.injEq] at ho
      subst ho
      have h10 : a.tmps.getD 10 undef = .bool false := hd ⟨2, .data⟩ (by simp) rfl
      rw [if_pos (gp_none rfl)]
      intro K hK
      go_simp
      exact hK _ _ (Below.refl _ _) hI rfl
    · simp only [List.getElem?_toArray, List.getElem?_cons_zero, List.getElem?_cons_succ, Option.some.injEq] at ho
      subst ho
      have h11 : a.tmps.getD 11 undef = .bool false := hd ⟨3, .guard⟩ (by simp) rfl
      have hgv : gpVal _ a 3 = .bool false := hd ⟨3, .guard⟩ (by simp) rfl
      rw [if_pos (by rw [gp_some rfl hgv]; decide)]
      clear hgv
      intro K hK
      go_simp
      exact hK _ _ (Below.refl _ _) hI rfl
    · simp only [List.getElem?_toArray, List.getElem?_cons_zero, List.getElem?_cons_succ, Option.some.injEq] at ho
      subst ho
      have h12 : a.tmps.getD 12 undef = .pointer (some ⟨ga, 2, none⟩) := hd ⟨4, .data⟩ (by simp) rfl
      have h11 : a.tmps.getD 11 undef = .bool false := hd ⟨3, .guard⟩ (by simp) rfl
      have hgv : gpVal _ a 3 = .bool false := hd ⟨3, .guard⟩ (by simp) rfl
      rw [if_pos (by rw [gp_some rfl hgv]; decide)]
      clear hgv
      intro K hK
      go_simp
      exact hK _ _ (Below.refl _ _) hI rfl
    · simp only [List.getElem?_toArray, List.getElem?_cons_zero, List.getElem?_cons_succ, Option.some.injEq] at ho
      subst ho
      have h13 : a.tmps.getD 13 undef = .int .i64 2 := hd ⟨5, .data⟩ (by simp) rfl
      have h11 : a.tmps.getD 11 undef = .bool false := hd ⟨3, .guard⟩ (by simp) rfl
      have hgv : gpVal _ a 3 = .bool false := hd ⟨3, .guard⟩ (by simp) rfl
      rw [if_pos (by rw [gp_some rfl hgv]; decide)]
      clear hgv
      intro K hK
      go_simp
      exact hK _ _ (Below.refl _ _) hI rfl
    · simp only [List.getElem?_toArray, List.getElem?_cons_zero, List.getElem?_cons_succ, Option.some.injEq] at ho
      subst ho
      have h11 : a.tmps.getD 11 undef = .bool false := hd ⟨3, .data⟩ (by simp) rfl
      have h14 : a.tmps.getD 14 undef = .bool false := hd ⟨6, .data⟩ (by simp) rfl
      rw [if_pos (gp_none rfl)]
      intro K hK
      go_simp
      exact hK _ _ (Below.refl _ _) hI rfl
    · simp only [List.getElem?_toArray, List.getElem?_cons_zero, List.getElem?_cons_succ, Option.some.injEq] at ho
      subst ho
      rw [if_pos (gp_none rfl)]
      intro K hK
      go_simp
      exact hK _ _ (Below.refl _ _) hI rfl
    · simp only [List.getElem?_toArray, List.getElem?_cons_zero, List.getElem?_cons_succ, Option.some.injEq] at ho
      subst ho
      have h16 : a.tmps.getD 16 undef = .pointer (some ⟨ga, 2, none⟩) := hd ⟨8, .data⟩ (by simp) rfl
      rw [if_pos (gp_none rfl)]
      intro K hK
      go_simp
      exact hK _ _ (Below.refl _ _) hI rfl
    · simp only [List.getElem?_toArray, List.getElem?_cons_zero, List.getElem?_cons_succ, Option.some.injEq] at ho
      subst ho
      have h17 : a.tmps.getD 17 undef = .int .i64 2 := hd ⟨9, .data⟩ (by simp) rfl
      rw [if_pos (gp_none rfl)]
      intro K hK
      go_simp
      exact hK _ _ (Below.refl _ _) hI rfl
    · simp only [List.getElem?_toArray, List.getElem?_cons_zero, List.getElem?_cons_succ, Option.some.injEq] at ho
      subst ho
      have h18 : a.tmps.getD 18 undef = .bool true := hd ⟨10, .data⟩ (by simp) rfl
      rw [if_pos (gp_none rfl)]
      intro K hK
      go_simp
      exact hK _ _ (Below.refl _ _) hI rfl
    · simp only [List.getElem?_toArray, List.getElem?_cons_zero, List.getElem?_cons_succ, Option.some.injEq] at ho
      subst ho
      have h19 : a.tmps.getD 19 undef = .bool true := hd ⟨11, .guard⟩ (by simp) rfl
      have hgv : gpVal _ a 11 = .bool true := hd ⟨11, .guard⟩ (by simp) rfl
      rw [if_neg (by rw [gp_some rfl hgv]; decide)]
      clear hgv
      exact ⟨rfl, Below.refl _ _⟩
    · simp only [List.getElem?_toArray, List.getElem?_cons_zero, List.getElem?_cons_succ, Option.some.injEq] at ho
      subst ho
      have h20 : a.tmps.getD 20 undef = undef := hd ⟨12, .data⟩ (by simp) rfl
      have h19 : a.tmps.getD 19 undef = .bool true := hd ⟨11, .guard⟩ (by simp) rfl
      have hgv : gpVal _ a 11 = .bool true := hd ⟨11, .guard⟩ (by simp) rfl
      rw [if_neg (by rw [gp_some rfl hgv]; decide)]
      clear hgv
      exact ⟨rfl, Below.refl _ _⟩
    · simp only [List.getElem?_toArray, List.getElem?_cons_zero, List.getElem?_cons_succ, Option.some.injEq] at ho
      subst ho
      have h21 : a.tmps.getD 21 undef = undef := hd ⟨13, .data⟩ (by simp) rfl
      have h19 : a.tmps.getD 19 undef = .bool true := hd ⟨11, .guard⟩ (by simp) rfl
      have hgv : gpVal _ a 11 = .bool true := hd ⟨11, .guard⟩ (by simp) rfl
      rw [if_neg (by rw [gp_some rfl hgv]; decide)]
      clear hgv
      exact ⟨rfl, Below.refl _ _⟩
    · simp only [List.getElem?_toArray, List.getElem?_cons_zero, List.getElem?_cons_succ, Option.some.injEq] at ho
      subst ho
      have h19 : a.tmps.getD 19 undef = .bool true := hd ⟨11, .data⟩ (by simp) rfl
      have h22 : a.tmps.getD 22 undef = undef := hd ⟨14, .data⟩ (by simp) rfl
      rw [if_pos (gp_none rfl)]
      intro K hK
      go_simp
      exact hK _ _ (Below.refl _ _) hI rfl
    · simp only [List.getElem?_toArray, List.getElem?_cons_zero, List.getElem?_cons_succ, Option.some.injEq] at ho
      subst ho
      have h15 : a.tmps.getD 15 undef = .bool false := hd ⟨7, .data⟩ (by simp) rfl
      rw [if_pos (gp_none rfl)]
      intro K hK
      go_simp
      exact hK _ _ (Below.refl _ _) hI rfl
    · simp only [List.getElem?_toArray, List.getElem?_cons_zero, List.getElem?_cons_succ, Option.some.injEq] at ho
      subst ho
      rw [if_pos (gp_none rfl)]
      intro K hK
      go_simp
      exact hK _ _ (Below.refl _ _) hI rfl
    · simp only [List.getElem?_toArray, List.getElem?_cons_zero, List.getElem?_cons_succ, Option.some.injEq] at ho
      subst ho
      have h23 : a.tmps.getD 23 undef = .bool true := hd ⟨15, .data⟩ (by simp) rfl
      rw [if_pos (gp_none rfl)]
      intro K hK
      go_simp
      exact hK _ _ (Below.refl _ _) hI rfl
  · intro a w hI hk hs
    exact hQ a w hk.1 (hk.2.1.trans hsz) (hs 16 (of_decide_eq_true (by kernel_rfl))) (hs 17 (of_decide_eq_true (by kernel_rfl))) (hs 18 (of_decide_eq_true (by kernel_rfl))) hI.1
theorem counts_2 (i : Nat) (n : ByteArray) (h0 : i ≠ 0) (w : World) : Calls Tryd.prog 37 #[.agg #[.int .i64 (i : Nat), .string n, .int .i64 2]] w fun e w' => e = .returned (.tuple #[.bool false, .bool true, .bool true]) ∧ Below w.heap.size w w' := by
  have g0 : (i = 0) = False := by simpa using h0
  have g0b : ((i : Int) == 0) = false := by simpa using h0
  go_enter Tryd.func37, Tryd.ntmps37
  go_wp2
  refine Ct2_region w.heap.size i n w rfl rfl (by repeat (with_reducible (first | exact Below.refl _ _ | assumption | apply ba | apply bd | apply bdr | (refine bs ?_ (by first | assumption | (simp; done) | (simp; omega))) | (refine bt ?_ (by assumption))))) (by go_simp) (by go_simp) (by go_simp) ?_
  intro A w6 hd hs h2 h3 h4 hb
  go_wp2
  exact bodyPost_ret (v := .tuple #[.bool false, .bool true, .bool true]) (by simp [results, Tryd.results37, go_sem, tmp' h2, tmp' h3, tmp' h4]) hd ⟨rfl, hb⟩
def Ct3Sp (ga _ki : Nat) (_n : ByteArray) : List Sp := [.val (.pointer (some ⟨ga, 2, none⟩)), .val (.int .i64 3), .val (.bool false), .val (.bool false), .val (.pointer (some ⟨ga, 2, none⟩)), .val (.int .i64 3), .val (.bool true), .val (.bool true), .val (.pointer (some ⟨ga, 2, none⟩)), .val (.int .i64 3), .val (.bool false), .val (.bool false), .val (.pointer (some ⟨ga, 2, none⟩)), .val (.int .i64 3), .val (.bool true), .val (.bool true), .val (.bool true), .val (.bool true), .val (.bool true)]
set_option maxHeartbeats 16000000 in
theorem Ct3_region (ga ki : Nat) (n : ByteArray) (w0 : World) {W : World} {Q : Exit → Act → World → Prop} {a0 : Act} (hsz : a0.tmps.size = 24) (f1 : a0.tmps.getD 1 undef = .pointer (some ⟨ga, 0, none⟩)) (hb0 : Below w0.heap.size w0 W) (C0 : W.cell? ⟨ga, 0, none⟩ = some (.int .i64 (ki : Nat))) (C1 : W.cell? ⟨ga, 1, none⟩ = some (.string n)) (C2 : W.cell? ⟨ga, 2, none⟩ = some (.int .i64 3)) 
    (hQ : ∀ (A : Act) (w : World), A.defers = a0.defers → A.tmps.size = 24 → A.tmps.getD 2 undef = .bool true → A.tmps.getD 3 undef = .bool true → A.tmps.getD 4 undef = .bool true → Below w0.heap.size w0 w → Q .normal A w) :
    Code.wp Tryd.prog ((Tryd.f37.body.bind (regionOf 3)).getD .skip) Q a0 W := by
  conv => arg 2; whnf
  (try simp only [List.append_eq, List.cons_append, List.nil_append])
  refine wp_region_plan (by kernel_rfl) (by kernel_rfl) (by kernel_rfl) (by rw [hsz]; kernel_rfl) (fun w => Below w0.heap.size w0 w ∧ Below W.heap.size W w) (fun w w' => Below w.heap.size w w') (fun i w v => ((Ct3Sp ga ki n).getD i .any).holds w v) ⟨bdr hb0, bdr (Below.refl _ _)⟩ (fun w w' j v hb h => Sp.mono _ hb h) ?_ ?_ ?_
  · intro i w v hn h
    have hge := gpAll_ge (by kernel_rfl) hn
    have e : (Ct3Sp ga ki n).getD i .any = .any := by rw [List.getD_eq_getElem?_getD, List.getElem?_eq_none (by exact hge)]; rfl
    rw [e]
    trivial
  · intro i o ho a w hI hk hd
    have hi : i < 19 := (Array.getElem?_eq_some_iff.1 ho).1
    have h1 : a.tmps.getD 1 undef = .pointer (some ⟨ga, 0, none⟩) := (hk.2.2 1 (gpFree_ne (by kernel_rfl))).trans f1
    have c0 : w.cell? ⟨ga, 0, none⟩ = some (.int .i64 (ki : Nat)) := cell_call C0 hI.2
    have c1 : w.cell? ⟨ga, 1, none⟩ = some (.string n) := cell_call C1 hI.2
    have c2 : w.cell? ⟨ga, 2, none⟩ = some (.int .i64 3) := cell_call C2 hI.2
    rcases (by omega : i = 0 ∨ i = 1 ∨ i = 2 ∨ i = 3 ∨ i = 4 ∨ i = 5 ∨ i = 6 ∨ i = 7 ∨ i = 8 ∨ i = 9 ∨ i = 10 ∨ i = 11 ∨ i = 12 ∨ i = 13 ∨ i = 14 ∨ i = 15 ∨ i = 16 ∨ i = 17 ∨ i = 18) with rfl | rfl | rfl | rfl | rfl | rfl | rfl | rfl | rfl | rfl | rfl | rfl | rfl | rfl | rfl | rfl | rfl | rfl | rfl
    · simp only [List.getElem?_toArray, List.getElem?_cons_zero, Option.some.injEq] at ho
      subst ho
      rw [if_pos (gp_none rfl)]
      intro K hK
      go_simp
      exact hK _ _ (Below.refl _ _) hI rfl
    · simp only [List.getElem?_toArray, List.getElem?_cons_zero, List.getElem?_cons_succ, Option.some.injEq] at ho
      subst ho
      have h8 : a.tmps.getD 8 undef = .pointer (some ⟨ga, 2, none⟩) := hd ⟨0, .data⟩ (by simp) rfl
      rw [if_pos (gp_none rfl)]
      intro K hK
      go_simp
      exact hK _ _ (Below.refl _ _) hI rfl
    · simp only [List.getElem?_toArray, List.getElem?_cons_zero, List.getElem?_cons_succ, Option.some.injEq] at ho
      subst ho
      have h9 : a.tmps.getD 9 undef = .int .i64 3 := hd ⟨1, .data⟩ (by simp) rfl
      rw [if_pos (gp_none rfl)]
      intro K hK
      go_simp
      exact hK _ _ (Below.refl _ _) hI rfl
    · simp only [List.getElem?_toArray, List.getElem?_cons_zero, List.getElem?_cons_succ, Option.some.injEq] at ho
      subst ho
      have h10 : a.tmps.getD 10 undef = .bool false := hd ⟨2, .data⟩ (by simp) rfl
      rw [if_pos (gp_none rfl)]
      intro K hK
      go_simp
      exact hK _ _ (Below.refl _ _) hI rfl
    · simp only [List.getElem?_toArray, List.getElem?_cons_zero, List.getElem?_cons_succ, Option.some.injEq] at ho
      subst ho
      have h11 : a.tmps.getD 11 undef = .bool false := hd ⟨3, .guard⟩ (by simp) rfl
      have hgv : gpVal _ a 3 = .bool false := hd ⟨3, .guard⟩ (by simp) rfl
      rw [if_pos (by rw [gp_some rfl hgv]; decide)]
      clear hgv
      intro K hK
      go_simp
      exact hK _ _ (Below.refl _ _) hI rfl
    · simp only [List.getElem?_toArray, List.getElem?_cons_zero, List.getElem?_cons_succ, Option.some.injEq] at ho
      subst ho
      have h12 : a.tmps.getD 12 undef = .pointer (some ⟨ga, 2, none⟩) := hd ⟨4, .data⟩ (by simp) rfl
      have h11 : a.tmps.getD 11 undef = .bool false := hd ⟨3, .guard⟩ (by simp) rfl
      have hgv : gpVal _ a 3 = .bool false := hd ⟨3, .guard⟩ (by simp) rfl
      rw [if_pos (by rw [gp_some rfl hgv]; decide)]
      clear hgv
      intro K hK
      go_simp
      exact hK _ _ (Below.refl _ _) hI rfl
    · simp only [List.getElem?_toArray, List.getElem?_cons_zero, List.getElem?_cons_succ, Option.some.injEq] at ho
      subst ho
      have h13 : a.tmps.getD 13 undef = .int .i64 3 := hd ⟨5, .data⟩ (by simp) rfl
      have h11 : a.tmps.getD 11 undef = .bool false := hd ⟨3, .guard⟩ (by simp) rfl
      have hgv : gpVal _ a 3 = .bool false := hd ⟨3, .guard⟩ (by simp) rfl
      rw [if_pos (by rw [gp_some rfl hgv]; decide)]
      clear hgv
      intro K hK
      go_simp
      exact hK _ _ (Below.refl _ _) hI rfl
    · simp only [List.getElem?_toArray, List.getElem?_cons_zero, List.getElem?_cons_succ, Option.some.injEq] at ho
      subst ho
      have h11 : a.tmps.getD 11 undef = .bool false := hd ⟨3, .data⟩ (by simp) rfl
      have h14 : a.tmps.getD 14 undef = .bool true := hd ⟨6, .data⟩ (by simp) rfl
      rw [if_pos (gp_none rfl)]
      intro K hK
      go_simp
      exact hK _ _ (Below.refl _ _) hI rfl
    · simp only [List.getElem?_toArray, List.getElem?_cons_zero, List.getElem?_cons_succ, Option.some.injEq] at ho
      subst ho
      rw [if_pos (gp_none rfl)]
      intro K hK
      go_simp
      exact hK _ _ (Below.refl _ _) hI rfl
    · simp only [List.getElem?_toArray, List.getElem?_cons_zero, List.getElem?_cons_succ, Option.some.injEq] at ho
      subst ho
      have h16 : a.tmps.getD 16 undef = .pointer (some ⟨ga, 2, none⟩) := hd ⟨8, .data⟩ (by simp) rfl
      rw [if_pos (gp_none rfl)]
      intro K hK
      go_simp
      exact hK _ _ (Below.refl _ _) hI rfl
    · simp only [List.getElem?_toArray, List.getElem?_cons_zero, List.getElem?_cons_succ, Option.some.injEq] at ho
      subst ho
      have h17 : a.tmps.getD 17 undef = .int .i64 3 := hd ⟨9, .data⟩ (by simp) rfl
      rw [if_pos (gp_none rfl)]
      intro K hK
      go_simp
      exact hK _ _ (Below.refl _ _) hI rfl
    · simp only [List.getElem?_toArray, List.getElem?_cons_zero, List.getElem?_cons_succ, Option.some.injEq] at ho
      subst ho
      have h18 : a.tmps.getD 18 undef = .bool false := hd ⟨10, .data⟩ (by simp) rfl
      rw [if_pos (gp_none rfl)]
      intro K hK
      go_simp
      exact hK _ _ (Below.refl _ _) hI rfl
    · simp only [List.getElem?_toArray, List.getElem?_cons_zero, List.getElem?_cons_succ, Option.some.injEq] at ho
      subst ho
      have h19 : a.tmps.getD 19 undef = .bool false := hd ⟨11, .guard⟩ (by simp) rfl
      have hgv : gpVal _ a 11 = .bool false := hd ⟨11, .guard⟩ (by simp) rfl
      rw [if_pos (by rw [gp_some rfl hgv]; decide)]
      clear hgv
      intro K hK
      go_simp
      exact hK _ _ (Below.refl _ _) hI rfl
    · simp only [List.getElem?_toArray, List.getElem?_cons_zero, List.getElem?_cons_succ, Option.some.injEq] at ho
      subst ho
      have h20 : a.tmps.getD 20 undef = .pointer (some ⟨ga, 2, none⟩) := hd ⟨12, .data⟩ (by simp) rfl
      have h19 : a.tmps.getD 19 undef = .bool false := hd ⟨11, .guard⟩ (by simp) rfl
      have hgv : gpVal _ a 11 = .bool false := hd ⟨11, .guard⟩ (by simp) rfl
      rw [if_pos (by rw [gp_some rfl hgv]; decide)]
      clear hgv
      intro K hK
      go_simp
      exact hK _ _ (Below.refl _ _) hI rfl
    · simp only [List.getElem?_toArray, List.getElem?_cons_zero, List.getElem?_cons_succ, Option.some.injEq] at ho
      subst ho
      have h21 : a.tmps.getD 21 undef = .int .i64 3 := hd ⟨13, .data⟩ (by simp) rfl
      have h19 : a.tmps.getD 19 undef = .bool false := hd ⟨11, .guard⟩ (by simp) rfl
      have hgv : gpVal _ a 11 = .bool false := hd ⟨11, .guard⟩ (by simp) rfl
      rw [if_pos (by rw [gp_some rfl hgv]; decide)]
      clear hgv
      intro K hK
      go_simp
      exact hK _ _ (Below.refl _ _) hI rfl
    · simp only [List.getElem?_toArray, List.getElem?_cons_zero, List.getElem?_cons_succ, Option.some.injEq] at ho
      subst ho
      have h19 : a.tmps.getD 19 undef = .bool false := hd ⟨11, .data⟩ (by simp) rfl
      have h22 : a.tmps.getD 22 undef = .bool true := hd ⟨14, .data⟩ (by simp) rfl
      rw [if_pos (gp_none rfl)]
      intro K hK
      go_simp
      exact hK _ _ (Below.refl _ _) hI rfl
    · simp only [List.getElem?_toArray, List.getElem?_cons_zero, List.getElem?_cons_succ, Option.some.injEq] at ho
      subst ho
      have h15 : a.tmps.getD 15 undef = .bool true := hd ⟨7, .data⟩ (by simp) rfl
      rw [if_pos (gp_none rfl)]
      intro K hK
      go_simp
      exact hK _ _ (Below.refl _ _) hI rfl
    · simp only [List.getElem?_toArray, List.getElem?_cons_zero, List.getElem?_cons_succ, Option.some.injEq] at ho
      subst ho
      rw [if_pos (gp_none rfl)]
      intro K hK
      go_simp
      exact hK _ _ (Below.refl _ _) hI rfl
    · simp only [List.getElem?_toArray, List.getElem?_cons_zero, List.getElem?_cons_succ, Option.some.injEq] at ho
      subst ho
      have h23 : a.tmps.getD 23 undef = .bool true := hd ⟨15, .data⟩ (by simp) rfl
      rw [if_pos (gp_none rfl)]
      intro K hK
      go_simp
      exact hK _ _ (Below.refl _ _) hI rfl
  · intro a w hI hk hs
    exact hQ a w hk.1 (hk.2.1.trans hsz) (hs 16 (of_decide_eq_true (by kernel_rfl))) (hs 17 (of_decide_eq_true (by kernel_rfl))) (hs 18 (of_decide_eq_true (by kernel_rfl))) hI.1
theorem counts_3 (i : Nat) (n : ByteArray) (h0 : i ≠ 0) (w : World) : Calls Tryd.prog 37 #[.agg #[.int .i64 (i : Nat), .string n, .int .i64 3]] w fun e w' => e = .returned (.tuple #[.bool true, .bool true, .bool true]) ∧ Below w.heap.size w w' := by
  have g0 : (i = 0) = False := by simpa using h0
  have g0b : ((i : Int) == 0) = false := by simpa using h0
  go_enter Tryd.func37, Tryd.ntmps37
  go_wp2
  refine Ct3_region w.heap.size i n w rfl rfl (by repeat (with_reducible (first | exact Below.refl _ _ | assumption | apply ba | apply bd | apply bdr | (refine bs ?_ (by first | assumption | (simp; done) | (simp; omega))) | (refine bt ?_ (by assumption))))) (by go_simp) (by go_simp) (by go_simp) ?_
  intro A w6 hd hs h2 h3 h4 hb
  go_wp2
  exact bodyPost_ret (v := .tuple #[.bool true, .bool true, .bool true]) (by simp [results, Tryd.results37, go_sem, tmp' h2, tmp' h3, tmp' h4]) hd ⟨rfl, hb⟩
theorem counts_no (n : ByteArray) (o : Int) (w : World) : Calls Tryd.prog 37 #[.agg #[.int .i64 0, .string n, .int .i64 o]] w fun e w' => e = .returned (.tuple #[.bool true, .bool false, .bool false]) ∧ Below w.heap.size w w' := by
  go_enter Tryd.func37, Tryd.ntmps37
  go_wp2
  exact bodyPost_ret (v := .tuple #[.bool true, .bool false, .bool false]) (by simp [results, Tryd.results37, go_sem]) rfl ⟨rfl, (by repeat (with_reducible (first | exact Below.refl _ _ | assumption | apply ba | apply bd | apply bdr | (refine bs ?_ (by first | assumption | (simp; done) | (simp; omega))) | (refine bt ?_ (by assumption)))))⟩
theorem counts_ref (i o : Nat) (ho : o ≤ 3) (n : ByteArray) (w : World) : Calls Tryd.prog 37 #[.agg #[.int .i64 (i : Nat), .string n, .int .i64 (o : Nat)]] w fun e w' => e = .returned (.tuple #[.bool (cntR (decide (i = 0)) o).1, .bool (cntR (decide (i = 0)) o).2.1, .bool (cntR (decide (i = 0)) o).2.2]) ∧ Below w.heap.size w w' := by
  by_cases h0 : i = 0
  · subst h0
    exact counts_no n o w
  · rw [decide_eq_false h0]
    obtain rfl | rfl | rfl | rfl : o = 0 ∨ o = 1 ∨ o = 2 ∨ o = 3 := by omega
    · exact counts_0 i n h0 w
    · exact counts_1 i n h0 w
    · exact counts_2 i n h0 w
    · exact counts_3 i n h0 w
/-- A row of numbers, in a block or nowhere. -/
def IRow (w : World) (A : Option Addr) (L : List Nat) : Prop := (L = [] ∧ A = none) ∨ ∃ g, A = some ⟨g, 0, none⟩ ∧ g < w.heap.size ∧ ∀ (j x : Nat), L[j]? = some x → w.cell? ⟨g, j, none⟩ = some (.int .i64 (x : Nat))
theorem IRow.below {w w' : World} {A : Option Addr} {L : List Nat} (h : IRow w A L) (hb : Below w.heap.size w w') : IRow w' A L := by
  rcases h with h | ⟨g, h1, h2, h3⟩
  · exact .inl h
  · exact .inr ⟨g, h1, zz hb h2, fun j x hx => cell_call (h3 j x hx) hb⟩
theorem irow_new (w : World) (L : List Nat) (t : TypeId) : IRow (w.alloc (.cells (L.map fun x => Value.int .i64 (x : Nat)).toArray t)) (some ⟨w.heap.size, 0, none⟩) L := by
  refine .inr ⟨w.heap.size, rfl, by simp, fun j x hx => ?_⟩
  rw [Lib.cell_of_heap (heap_alloc_new w _)]
  simp [hx]
theorem leaves_any (i : Nat) (hi : i ≤ 13) (w : World) : Calls Tryd.prog 43 #[.int .i64 (i : Nat)] w fun e w' => ∃ A, e = .returned (.slice A (leavesL i).length (leavesL i).length) ∧ IRow w' A (leavesL i) ∧ Below w.heap.size w w' := by
  obtain rfl | rfl | rfl | rfl | rfl | rfl | rfl | rfl | rfl | rfl | rfl | rfl | rfl | rfl : i = 0 ∨ i = 1 ∨ i = 2 ∨ i = 3 ∨ i = 4 ∨ i = 5 ∨ i = 6 ∨ i = 7 ∨ i = 8 ∨ i = 9 ∨ i = 10 ∨ i = 11 ∨ i = 12 ∨ i = 13 := by omega
  · go_enter Tryd.func43, Tryd.ntmps43
    go_wp2
    go_ret
    exact ⟨none, rfl, .inl ⟨rfl, rfl⟩, (by repeat (with_reducible (first | exact Below.refl _ _ | assumption | apply ba | apply bd | apply bdr | (refine bs ?_ (by first | assumption | (simp; done) | (simp; omega))) | (refine bt ?_ (by assumption)))))⟩
  all_goals
    go_enter Tryd.func43, Tryd.ntmps43
    go_wp2
    go_ret
    exact ⟨some ⟨w.heap.size, 0, none⟩, rfl, irow_new w _ _, (by repeat (with_reducible (first | exact Below.refl _ _ | assumption | apply ba | apply bd | apply bdr | (refine bs ?_ (by first | assumption | (simp; done) | (simp; omega))) | (refine bt ?_ (by assumption)))))⟩
end Go.Proofs.YtjpopmgnhgancaaDoor
namespace Go.Proofs.YtjpopmgnhgancaaDoor
open Go.RowKit Go.Lib
set_option maxRecDepth 100000
def LtI (w0 : World) (g5 g6 n5 n6 i k : Nat) (c0 c1 c2 c3 c4 c10 c11 c12 c13 c14 c15 c16 c17 c18 c19 c20 c21 c22 c23 c24 c25 c26 c27 c40 c41 c42 c43 c44 c45 c46 c47 c48 c49 c50 c51 c52 c53 c54 c55 c56 c57 c58 c59 c60 c61 c62 c63 : Value) (listed : Array Bool) (A : Act) (w : World) : Prop := ∃ (s8 s28 s29 s30 s31 s32 s33 s34 s35 s36 s37 s38 s39 : Value), A = { tmps := #[c0, c1, c2, c3, c4, .slice (some ⟨g5, 0, none⟩) n5 n5, .slice (some ⟨g6, 0, none⟩) n6 n6, .int .i64 (i : Nat), s8, .int .i64 (k : Nat), c10, c11, c12, c13, c14, c15, c16, c17, c18, c19, c20, c21, c22, c23, c24, c25, c26, c27, s28, s29, s30, s31, s32, s33, s34, s35, s36, s37, s38, s39, c40, c41, c42, c43, c44, c45, c46, c47, c48, c49, c50, c51, c52, c53, c54, c55, c56, c57, c58, c59, c60, c61, c62, c63], defers := [] } ∧
  (listed.getD 0 false = true → s28 = .bool true) ∧
  (listed.getD 1 false = true → s29 = .bool true) ∧
  (listed.getD 2 false = true → s30 = undef) ∧
  (listed.getD 3 false = true → s31 = undef) ∧
  (listed.getD 4 false = true → s32 = undef) ∧
  (listed.getD 5 false = true → s33 = undef) ∧
  (listed.getD 6 false = true → s34 = undef) ∧
  (listed.getD 7 false = true → s35 = undef) ∧
  (listed.getD 8 false = true → s36 = undef) ∧
  (listed.getD 9 false = true → s37 = undef) ∧
  (listed.getD 10 false = true → s38 = undef) ∧
  (listed.getD 11 false = true → s39 = .bool true) ∧
  (listed.getD 12 false = true → s8 = .bool true) ∧
  Below w0.heap.size w0 w ∧
  (listed.getD 12 false = false → s8 = .bool true) ∧
  (listed.getD 12 false = true → listed.getD 0 false = true)
set_option maxRecDepth 100000 in
set_option maxHeartbeats 16000000 in
theorem Lt_region (g5 g6 n5 n6 i k : Nat) {x8 x28 x29 x30 x31 x32 x33 x34 x35 x36 x37 x38 x39 : Value} {c0 c1 c2 c3 c4 c10 c11 c12 c13 c14 c15 c16 c17 c18 c19 c20 c21 c22 c23 c24 c25 c26 c27 c40 c41 c42 c43 c44 c45 c46 c47 c48 c49 c50 c51 c52 c53 c54 c55 c56 c57 c58 c59 c60 c61 c62 c63 : Value} (w0 : World) {W : World} {Q : Exit → Act → World → Prop} (hb0 : Below w0.heap.size w0 W)  (X8 : x8 = .bool true) 
    (hQ : ∀ (w : World) , (True) → Below w0.heap.size w0 w → Q .normal { tmps := #[c0, c1, c2, c3, c4, .slice (some ⟨g5, 0, none⟩) n5 n5, .slice (some ⟨g6, 0, none⟩) n6 n6, .int .i64 (i : Nat), .bool true, .int .i64 (k : Nat), c10, c11, c12, c13, c14, c15, c16, c17, c18, c19, c20, c21, c22, c23, c24, c25, c26, c27, .bool true, .bool true, undef, undef, undef, undef, undef, undef, undef, undef, undef, .bool true, c40, c41, c42, c43, c44, c45, c46, c47, c48, c49, c50, c51, c52, c53, c54, c55, c56, c57, c58, c59, c60, c61, c62, c63], defers := [] } w) :
    Code.wp Tryd.prog ((Tryd.f18.body.bind (regionOf 10)).getD .skip) Q { tmps := #[c0, c1, c2, c3, c4, .slice (some ⟨g5, 0, none⟩) n5 n5, .slice (some ⟨g6, 0, none⟩) n6 n6, .int .i64 (i : Nat), x8, .int .i64 (k : Nat), c10, c11, c12, c13, c14, c15, c16, c17, c18, c19, c20, c21, c22, c23, c24, c25, c26, c27, x28, x29, x30, x31, x32, x33, x34, x35, x36, x37, x38, x39, c40, c41, c42, c43, c44, c45, c46, c47, c48, c49, c50, c51, c52, c53, c54, c55, c56, c57, c58, c59, c60, c61, c62, c63], defers := [] } W := by
  conv => arg 2; whnf
  refine wp_region_inv (by kernel_rfl) (by kernel_rfl) (LtI w0 g5 g6 n5 n6 i k c0 c1 c2 c3 c4 c10 c11 c12 c13 c14 c15 c16 c17 c18 c19 c20 c21 c22 c23 c24 c25 c26 c27 c40 c41 c42 c43 c44 c45 c46 c47 c48 c49 c50 c51 c52 c53 c54 c55 c56 c57 c58 c59 c60 c61 c62 c63) ?_ ?_ ?_
  · exact ⟨_, _, _, _, _, _, _, _, _, _, _, _, _, rfl, fun h => absurd h l0, fun h => absurd h l0, fun h => absurd h l0, fun h => absurd h l0, fun h => absurd h l0, fun h => absurd h l0, fun h => absurd h l0, fun h => absurd h l0, fun h => absurd h l0, fun h => absurd h l0, fun h => absurd h l0, fun h => absurd h l0, fun h => absurd h l0, bdr hb0, fun _ => X8, fun h => absurd h l0⟩
  · intro i o listed A w hi ho hd hn hI
    unfold LtI at hI
    obtain ⟨s8, hI⟩ := hI
    obtain ⟨s28, hI⟩ := hI
    obtain ⟨s29, hI⟩ := hI
    obtain ⟨s30, hI⟩ := hI
    obtain ⟨s31, hI⟩ := hI
    obtain ⟨s32, hI⟩ := hI
    obtain ⟨s33, hI⟩ := hI
    obtain ⟨s34, hI⟩ := hI
    obtain ⟨s35, hI⟩ := hI
    obtain ⟨s36, hI⟩ := hI
    obtain ⟨s37, hI⟩ := hI
    obtain ⟨s38, hI⟩ := hI
    obtain ⟨s39, hI⟩ := hI
    obtain ⟨rfl, hI⟩ := hI
    obtain ⟨F0, hI⟩ := hI
    obtain ⟨F1, hI⟩ := hI
    obtain ⟨F2, hI⟩ := hI
    obtain ⟨F3, hI⟩ := hI
    obtain ⟨F4, hI⟩ := hI
    obtain ⟨F5, hI⟩ := hI
    obtain ⟨F6, hI⟩ := hI
    obtain ⟨F7, hI⟩ := hI
    obtain ⟨F8, hI⟩ := hI
    obtain ⟨F9, hI⟩ := hI
    obtain ⟨F10, hI⟩ := hI
    obtain ⟨F11, hI⟩ := hI
    obtain ⟨F12, hI⟩ := hI
    obtain ⟨F13, hI⟩ := hI
    obtain ⟨F14, hI⟩ := hI
    have F15 := hI; clear hI
    have hi' : i < 13 := hi
    clear hi
    rcases (by omega : i = 0 ∨ i = 1 ∨ i = 2 ∨ i = 3 ∨ i = 4 ∨ i = 5 ∨ i = 6 ∨ i = 7 ∨ i = 8 ∨ i = 9 ∨ i = 10 ∨ i = 11 ∨ i = 12) with rfl | rfl | rfl | rfl | rfl | rfl | rfl | rfl | rfl | rfl | rfl | rfl | rfl
    · simp only [List.getElem?_toArray, List.getElem?_cons_zero, Option.some.injEq] at ho
      subst ho
      obtain rfl := F14 (ln hn F15)
      refine wpOp_step rfl (fun K hK => ?_)
      go_simp
      refine hK _ _ ?_
      exact ⟨_, _, _, _, _, _, _, _, _, _, _, _, _, rfl, fun _ => rfl, lk F1, lk F2, lk F3, lk F4, lk F5, lk F6, lk F7, lk F8, lk F9, lk F10, lk F11, lk F12, F13, fun h => F14 (lsf (by decide) h), fun h => la (F15 (ls (by decide) h))⟩
    · simp only [List.getElem?_toArray, List.getElem?_cons_zero, List.getElem?_cons_succ, Option.some.injEq] at ho
      subst ho
      obtain rfl := F0 (hd ⟨0, .data⟩ (by simp) rfl)
      refine wpOp_step rfl (fun K hK => ?_)
      go_simp
      refine hK _ _ ?_
      exact ⟨_, _, _, _, _, _, _, _, _, _, _, _, _, rfl, lk F0, fun _ => rfl, lk F2, lk F3, lk F4, lk F5, lk F6, lk F7, lk F8, lk F9, lk F10, lk F11, lk F12, F13, fun h => F14 (lsf (by decide) h), fun h => la (F15 (ls (by decide) h))⟩
    · simp only [List.getElem?_toArray, List.getElem?_cons_zero, List.getElem?_cons_succ, Option.some.injEq] at ho
      subst ho
      obtain rfl := F1 (hd ⟨1, .guard⟩ (by simp) rfl)
      refine wpOp_step rfl (fun K hK => ?_)
      go_simp
      refine hK _ _ ?_
      exact ⟨_, _, _, _, _, _, _, _, _, _, _, _, _, rfl, lk F0, lk F1, fun _ => rfl, lk F3, lk F4, lk F5, lk F6, lk F7, lk F8, lk F9, lk F10, lk F11, lk F12, F13, fun h => F14 (lsf (by decide) h), fun h => la (F15 (ls (by decide) h))⟩
    · simp only [List.getElem?_toArray, List.getElem?_cons_zero, List.getElem?_cons_succ, Option.some.injEq] at ho
      subst ho
      obtain rfl := F1 (hd ⟨1, .guard⟩ (by simp) rfl)
      refine wpOp_step rfl (fun K hK => ?_)
      go_simp
      refine hK _ _ ?_
      exact ⟨_, _, _, _, _, _, _, _, _, _, _, _, _, rfl, lk F0, lk F1, lk F2, fun _ => rfl, lk F4, lk F5, lk F6, lk F7, lk F8, lk F9, lk F10, lk F11, lk F12, F13, fun h => F14 (lsf (by decide) h), fun h => la (F15 (ls (by decide) h))⟩
    · simp only [List.getElem?_toArray, List.getElem?_cons_zero, List.getElem?_cons_succ, Option.some.injEq] at ho
      subst ho
      obtain rfl := F1 (hd ⟨1, .guard⟩ (by simp) rfl)
      refine wpOp_step rfl (fun K hK => ?_)
      go_simp
      refine hK _ _ ?_
      exact ⟨_, _, _, _, _, _, _, _, _, _, _, _, _, rfl, lk F0, lk F1, lk F2, lk F3, fun _ => rfl, lk F5, lk F6, lk F7, lk F8, lk F9, lk F10, lk F11, lk F12, F13, fun h => F14 (lsf (by decide) h), fun h => la (F15 (ls (by decide) h))⟩
    · simp only [List.getElem?_toArray, List.getElem?_cons_zero, List.getElem?_cons_succ, Option.some.injEq] at ho
      subst ho
      obtain rfl := F1 (hd ⟨1, .guard⟩ (by simp) rfl)
      refine wpOp_step rfl (fun K hK => ?_)
      go_simp
      refine hK _ _ ?_
      exact ⟨_, _, _, _, _, _, _, _, _, _, _, _, _, rfl, lk F0, lk F1, lk F2, lk F3, lk F4, fun _ => rfl, lk F6, lk F7, lk F8, lk F9, lk F10, lk F11, lk F12, F13, fun h => F14 (lsf (by decide) h), fun h => la (F15 (ls (by decide) h))⟩
    · simp only [List.getElem?_toArray, List.getElem?_cons_zero, List.getElem?_cons_succ, Option.some.injEq] at ho
      subst ho
      obtain rfl := F1 (hd ⟨1, .guard⟩ (by simp) rfl)
      refine wpOp_step rfl (fun K hK => ?_)
      go_simp
      refine hK _ _ ?_
      exact ⟨_, _, _, _, _, _, _, _, _, _, _, _, _, rfl, lk F0, lk F1, lk F2, lk F3, lk F4, lk F5, fun _ => rfl, lk F7, lk F8, lk F9, lk F10, lk F11, lk F12, F13, fun h => F14 (lsf (by decide) h), fun h => la (F15 (ls (by decide) h))⟩
    · simp only [List.getElem?_toArray, List.getElem?_cons_zero, List.getElem?_cons_succ, Option.some.injEq] at ho
      subst ho
      obtain rfl := F1 (hd ⟨1, .guard⟩ (by simp) rfl)
      refine wpOp_step rfl (fun K hK => ?_)
      go_simp
      refine hK _ _ ?_
      exact ⟨_, _, _, _, _, _, _, _, _, _, _, _, _, rfl, lk F0, lk F1, lk F2, lk F3, lk F4, lk F5, lk F6, fun _ => rfl, lk F8, lk F9, lk F10, lk F11, lk F12, F13, fun h => F14 (lsf (by decide) h), fun h => la (F15 (ls (by decide) h))⟩
    · simp only [List.getElem?_toArray, List.getElem?_cons_zero, List.getElem?_cons_succ, Option.some.injEq] at ho
      subst ho
      obtain rfl := F1 (hd ⟨1, .guard⟩ (by simp) rfl)
      refine wpOp_step rfl (fun K hK => ?_)
      go_simp
      refine hK _ _ ?_
      exact ⟨_, _, _, _, _, _, _, _, _, _, _, _, _, rfl, lk F0, lk F1, lk F2, lk F3, lk F4, lk F5, lk F6, lk F7, fun _ => rfl, lk F9, lk F10, lk F11, lk F12, F13, fun h => F14 (lsf (by decide) h), fun h => la (F15 (ls (by decide) h))⟩
    · simp only [List.getElem?_toArray, List.getElem?_cons_zero, List.getElem?_cons_succ, Option.some.injEq] at ho
      subst ho
      obtain rfl := F1 (hd ⟨1, .guard⟩ (by simp) rfl)
      refine wpOp_step rfl (fun K hK => ?_)
      go_simp
      refine hK _ _ ?_
      exact ⟨_, _, _, _, _, _, _, _, _, _, _, _, _, rfl, lk F0, lk F1, lk F2, lk F3, lk F4, lk F5, lk F6, lk F7, lk F8, fun _ => rfl, lk F10, lk F11, lk F12, F13, fun h => F14 (lsf (by decide) h), fun h => la (F15 (ls (by decide) h))⟩
    · simp only [List.getElem?_toArray, List.getElem?_cons_zero, List.getElem?_cons_succ, Option.some.injEq] at ho
      subst ho
      obtain rfl := F1 (hd ⟨1, .guard⟩ (by simp) rfl)
      refine wpOp_step rfl (fun K hK => ?_)
      go_simp
      refine hK _ _ ?_
      exact ⟨_, _, _, _, _, _, _, _, _, _, _, _, _, rfl, lk F0, lk F1, lk F2, lk F3, lk F4, lk F5, lk F6, lk F7, lk F8, lk F9, fun _ => rfl, lk F11, lk F12, F13, fun h => F14 (lsf (by decide) h), fun h => la (F15 (ls (by decide) h))⟩
    · simp only [List.getElem?_toArray, List.getElem?_cons_zero, List.getElem?_cons_succ, Option.some.injEq] at ho
      subst ho
      obtain rfl := F1 (hd ⟨1, .data⟩ (by simp) rfl)
      refine wpOp_step rfl (fun K hK => ?_)
      go_simp
      refine hK _ _ ?_
      exact ⟨_, _, _, _, _, _, _, _, _, _, _, _, _, rfl, lk F0, lk F1, lk F2, lk F3, lk F4, lk F5, lk F6, lk F7, lk F8, lk F9, lk F10, fun _ => rfl, lk F12, F13, fun h => F14 (lsf (by decide) h), fun h => la (F15 (ls (by decide) h))⟩
    · simp only [List.getElem?_toArray, List.getElem?_cons_zero, List.getElem?_cons_succ, Option.some.injEq] at ho
      subst ho
      obtain rfl := F11 (hd ⟨11, .data⟩ (by simp) rfl)
      refine wpOp_step rfl (fun K hK => ?_)
      go_simp
      refine hK _ _ ?_
      exact ⟨_, _, _, _, _, _, _, _, _, _, _, _, _, rfl, lk F0, lk F1, lk F2, lk F3, lk F4, lk F5, lk F6, lk F7, lk F8, lk F9, lk F10, lk F11, fun _ => rfl, F13, fun h => lx hn h, fun _ => la (hd ⟨0, .phase⟩ (by simp) rfl)⟩
  · intro listed A w hall hI
    unfold LtI at hI
    obtain ⟨s8, hI⟩ := hI
    obtain ⟨s28, hI⟩ := hI
    obtain ⟨s29, hI⟩ := hI
    obtain ⟨s30, hI⟩ := hI
    obtain ⟨s31, hI⟩ := hI
    obtain ⟨s32, hI⟩ := hI
    obtain ⟨s33, hI⟩ := hI
    obtain ⟨s34, hI⟩ := hI
    obtain ⟨s35, hI⟩ := hI
    obtain ⟨s36, hI⟩ := hI
    obtain ⟨s37, hI⟩ := hI
    obtain ⟨s38, hI⟩ := hI
    obtain ⟨s39, hI⟩ := hI
    obtain ⟨rfl, hI⟩ := hI
    obtain ⟨F0, hI⟩ := hI
    obtain ⟨F1, hI⟩ := hI
    obtain ⟨F2, hI⟩ := hI
    obtain ⟨F3, hI⟩ := hI
    obtain ⟨F4, hI⟩ := hI
    obtain ⟨F5, hI⟩ := hI
    obtain ⟨F6, hI⟩ := hI
    obtain ⟨F7, hI⟩ := hI
    obtain ⟨F8, hI⟩ := hI
    obtain ⟨F9, hI⟩ := hI
    obtain ⟨F10, hI⟩ := hI
    obtain ⟨F11, hI⟩ := hI
    obtain ⟨F12, hI⟩ := hI
    obtain ⟨F13, hI⟩ := hI
    obtain ⟨F14, hI⟩ := hI
    have F15 := hI; clear hI
    obtain rfl := F0 (hall 0 (by decide))
    obtain rfl := F1 (hall 1 (by decide))
    obtain rfl := F2 (hall 2 (by decide))
    obtain rfl := F3 (hall 3 (by decide))
    obtain rfl := F4 (hall 4 (by decide))
    obtain rfl := F5 (hall 5 (by decide))
    obtain rfl := F6 (hall 6 (by decide))
    obtain rfl := F7 (hall 7 (by decide))
    obtain rfl := F8 (hall 8 (by decide))
    obtain rfl := F9 (hall 9 (by decide))
    obtain rfl := F10 (hall 10 (by decide))
    obtain rfl := F11 (hall 11 (by decide))
    obtain rfl := F12 (hall 12 (by decide))
    have HB := F13
    have Q1 := F15
    exact hQ _ trivial HB
def LfI (w0 : World) (g5 g6 n5 n6 i k x y : Nat) (c0 c1 c2 c3 c4 c10 c11 c12 c13 c14 c15 c16 c17 c18 c19 c20 c21 c22 c23 c24 c25 c26 c27 c40 c41 c42 c43 c44 c45 c46 c47 c48 c49 c50 c51 c52 c53 c54 c55 c56 c57 c58 c59 c60 c61 c62 c63 : Value) (listed : Array Bool) (A : Act) (w : World) : Prop := ∃ (s8 s28 s29 s30 s31 s32 s33 s34 s35 s36 s37 s38 s39 : Value), A = { tmps := #[c0, c1, c2, c3, c4, .slice (some ⟨g5, 0, none⟩) n5 n5, .slice (some ⟨g6, 0, none⟩) n6 n6, .int .i64 (i : Nat), s8, .int .i64 (k : Nat), c10, c11, c12, c13, c14, c15, c16, c17, c18, c19, c20, c21, c22, c23, c24, c25, c26, c27, s28, s29, s30, s31, s32, s33, s34, s35, s36, s37, s38, s39, c40, c41, c42, c43, c44, c45, c46, c47, c48, c49, c50, c51, c52, c53, c54, c55, c56, c57, c58, c59, c60, c61, c62, c63], defers := [] } ∧
  (listed.getD 0 false = true → s28 = .bool false) ∧
  (listed.getD 1 false = true → s29 = .bool false) ∧
  (listed.getD 2 false = true → s30 = .slice (some ⟨g6, 0, none⟩) n6 n6) ∧
  (listed.getD 3 false = true → s31 = .int .i64 (k : Nat)) ∧
  (listed.getD 4 false = true → s32 = .pointer (some ⟨g6, k, none⟩)) ∧
  (listed.getD 5 false = true → s33 = .int .i64 (y : Nat)) ∧
  (listed.getD 6 false = true → s34 = .slice (some ⟨g5, 0, none⟩) n5 n5) ∧
  (listed.getD 7 false = true → s35 = .int .i64 (i : Nat)) ∧
  (listed.getD 8 false = true → s36 = .pointer (some ⟨g5, i, none⟩)) ∧
  (listed.getD 9 false = true → s37 = .int .i64 (x : Nat)) ∧
  (listed.getD 10 false = true → s38 = .bool ((y : Int) == (x : Int))) ∧
  (listed.getD 11 false = true → s39 = .bool ((y : Int) == (x : Int))) ∧
  (listed.getD 12 false = true → s8 = .bool ((y : Int) == (x : Int))) ∧
  Below w0.heap.size w0 w ∧
  w.cell? ⟨g5, i, none⟩ = some (.int .i64 (x : Nat)) ∧
  w.cell? ⟨g6, k, none⟩ = some (.int .i64 (y : Nat)) ∧
  (listed.getD 12 false = false → s8 = .bool false) ∧
  (listed.getD 12 false = true → listed.getD 0 false = true)
set_option maxRecDepth 100000 in
set_option maxHeartbeats 16000000 in
theorem Lf_region (g5 g6 n5 n6 i k x y : Nat) {x8 x28 x29 x30 x31 x32 x33 x34 x35 x36 x37 x38 x39 : Value} {c0 c1 c2 c3 c4 c10 c11 c12 c13 c14 c15 c16 c17 c18 c19 c20 c21 c22 c23 c24 c25 c26 c27 c40 c41 c42 c43 c44 c45 c46 c47 c48 c49 c50 c51 c52 c53 c54 c55 c56 c57 c58 c59 c60 c61 c62 c63 : Value} (w0 : World) {W : World} {Q : Exit → Act → World → Prop} (hb0 : Below w0.heap.size w0 W) (C0 : W.cell? ⟨g5, i, none⟩ = some (.int .i64 (x : Nat))) (C1 : W.cell? ⟨g6, k, none⟩ = some (.int .i64 (y : Nat))) (X8 : x8 = .bool false) (hi : i < n5) (hk : k < n6) (_hi' : decide (i < n5) = true) (_hk' : decide (k < n6) = true)
    (hQ : ∀ (w : World) , (True) → Below w0.heap.size w0 w → Q .normal { tmps := #[c0, c1, c2, c3, c4, .slice (some ⟨g5, 0, none⟩) n5 n5, .slice (some ⟨g6, 0, none⟩) n6 n6, .int .i64 (i : Nat), .bool ((y : Int) == (x : Int)), .int .i64 (k : Nat), c10, c11, c12, c13, c14, c15, c16, c17, c18, c19, c20, c21, c22, c23, c24, c25, c26, c27, .bool false, .bool false, .slice (some ⟨g6, 0, none⟩) n6 n6, .int .i64 (k : Nat), .pointer (some ⟨g6, k, none⟩), .int .i64 (y : Nat), .slice (some ⟨g5, 0, none⟩) n5 n5, .int .i64 (i : Nat), .pointer (some ⟨g5, i, none⟩), .int .i64 (x : Nat), .bool ((y : Int) == (x : Int)), .bool ((y : Int) == (x : Int)), c40, c41, c42, c43, c44, c45, c46, c47, c48, c49, c50, c51, c52, c53, c54, c55, c56, c57, c58, c59, c60, c61, c62, c63], defers := [] } w) :
    Code.wp Tryd.prog ((Tryd.f18.body.bind (regionOf 10)).getD .skip) Q { tmps := #[c0, c1, c2, c3, c4, .slice (some ⟨g5, 0, none⟩) n5 n5, .slice (some ⟨g6, 0, none⟩) n6 n6, .int .i64 (i : Nat), x8, .int .i64 (k : Nat), c10, c11, c12, c13, c14, c15, c16, c17, c18, c19, c20, c21, c22, c23, c24, c25, c26, c27, x28, x29, x30, x31, x32, x33, x34, x35, x36, x37, x38, x39, c40, c41, c42, c43, c44, c45, c46, c47, c48, c49, c50, c51, c52, c53, c54, c55, c56, c57, c58, c59, c60, c61, c62, c63], defers := [] } W := by
  conv => arg 2; whnf
  refine wp_region_inv (by kernel_rfl) (by kernel_rfl) (LfI w0 g5 g6 n5 n6 i k x y c0 c1 c2 c3 c4 c10 c11 c12 c13 c14 c15 c16 c17 c18 c19 c20 c21 c22 c23 c24 c25 c26 c27 c40 c41 c42 c43 c44 c45 c46 c47 c48 c49 c50 c51 c52 c53 c54 c55 c56 c57 c58 c59 c60 c61 c62 c63) ?_ ?_ ?_
  · exact ⟨_, _, _, _, _, _, _, _, _, _, _, _, _, rfl, fun h => absurd h l0, fun h => absurd h l0, fun h => absurd h l0, fun h => absurd h l0, fun h => absurd h l0, fun h => absurd h l0, fun h => absurd h l0, fun h => absurd h l0, fun h => absurd h l0, fun h => absurd h l0, fun h => absurd h l0, fun h => absurd h l0, fun h => absurd h l0, bdr hb0, C0, C1, fun _ => X8, fun h => absurd h l0⟩
  · intro i o listed A w hi ho hd hn hI
    unfold LfI at hI
    obtain ⟨s8, hI⟩ := hI
    obtain ⟨s28, hI⟩ := hI
    obtain ⟨s29, hI⟩ := hI
    obtain ⟨s30, hI⟩ := hI
    obtain ⟨s31, hI⟩ := hI
    obtain ⟨s32, hI⟩ := hI
    obtain ⟨s33, hI⟩ := hI
    obtain ⟨s34, hI⟩ := hI
    obtain ⟨s35, hI⟩ := hI
    obtain ⟨s36, hI⟩ := hI
    obtain ⟨s37, hI⟩ := hI
    obtain ⟨s38, hI⟩ := hI
    obtain ⟨s39, hI⟩ := hI
    obtain ⟨rfl, hI⟩ := hI
    obtain ⟨F0, hI⟩ := hI
    obtain ⟨F1, hI⟩ := hI
    obtain ⟨F2, hI⟩ := hI
    obtain ⟨F3, hI⟩ := hI
    obtain ⟨F4, hI⟩ := hI
    obtain ⟨F5, hI⟩ := hI
    obtain ⟨F6, hI⟩ := hI
    obtain ⟨F7, hI⟩ := hI
    obtain ⟨F8, hI⟩ := hI
    obtain ⟨F9, hI⟩ := hI
    obtain ⟨F10, hI⟩ := hI
    obtain ⟨F11, hI⟩ := hI
    obtain ⟨F12, hI⟩ := hI
    obtain ⟨F13, hI⟩ := hI
    obtain ⟨F14, hI⟩ := hI
    obtain ⟨F15, hI⟩ := hI
    obtain ⟨F16, hI⟩ := hI
    have F17 := hI; clear hI
    have hi' : i < 13 := hi
    clear hi
    rcases (by omega : i = 0 ∨ i = 1 ∨ i = 2 ∨ i = 3 ∨ i = 4 ∨ i = 5 ∨ i = 6 ∨ i = 7 ∨ i = 8 ∨ i = 9 ∨ i = 10 ∨ i = 11 ∨ i = 12) with rfl | rfl | rfl | rfl | rfl | rfl | rfl | rfl | rfl | rfl | rfl | rfl | rfl
    · simp only [List.getElem?_toArray, List.getElem?_cons_zero, Option.some.injEq] at ho
      subst ho
      obtain rfl := F16 (ln hn F17)
      refine wpOp_step rfl (fun K hK => ?_)
      go_simp
      refine hK _ _ ?_
      exact ⟨_, _, _, _, _, _, _, _, _, _, _, _, _, rfl, fun _ => rfl, lk F1, lk F2, lk F3, lk F4, lk F5, lk F6, lk F7, lk F8, lk F9, lk F10, lk F11, lk F12, F13, F14, F15, fun h => F16 (lsf (by decide) h), fun h => la (F17 (ls (by decide) h))⟩
    · simp only [List.getElem?_toArray, List.getElem?_cons_zero, List.getElem?_cons_succ, Option.some.injEq] at ho
      subst ho
      obtain rfl := F0 (hd ⟨0, .data⟩ (by simp) rfl)
      refine wpOp_step rfl (fun K hK => ?_)
      go_simp
      refine hK _ _ ?_
      exact ⟨_, _, _, _, _, _, _, _, _, _, _, _, _, rfl, lk F0, fun _ => rfl, lk F2, lk F3, lk F4, lk F5, lk F6, lk F7, lk F8, lk F9, lk F10, lk F11, lk F12, F13, F14, F15, fun h => F16 (lsf (by decide) h), fun h => la (F17 (ls (by decide) h))⟩
    · simp only [List.getElem?_toArray, List.getElem?_cons_zero, List.getElem?_cons_succ, Option.some.injEq] at ho
      subst ho
      obtain rfl := F1 (hd ⟨1, .guard⟩ (by simp) rfl)
      refine wpOp_step rfl (fun K hK => ?_)
      go_simp
      refine hK _ _ ?_
      exact ⟨_, _, _, _, _, _, _, _, _, _, _, _, _, rfl, lk F0, lk F1, fun _ => rfl, lk F3, lk F4, lk F5, lk F6, lk F7, lk F8, lk F9, lk F10, lk F11, lk F12, F13, F14, F15, fun h => F16 (lsf (by decide) h), fun h => la (F17 (ls (by decide) h))⟩
    · simp only [List.getElem?_toArray, List.getElem?_cons_zero, List.getElem?_cons_succ, Option.some.injEq] at ho
      subst ho
      obtain rfl := F1 (hd ⟨1, .guard⟩ (by simp) rfl)
      refine wpOp_step rfl (fun K hK => ?_)
      go_simp
      refine hK _ _ ?_
      exact ⟨_, _, _, _, _, _, _, _, _, _, _, _, _, rfl, lk F0, lk F1, lk F2, fun _ => rfl, lk F4, lk F5, lk F6, lk F7, lk F8, lk F9, lk F10, lk F11, lk F12, F13, F14, F15, fun h => F16 (lsf (by decide) h), fun h => la (F17 (ls (by decide) h))⟩
    · simp only [List.getElem?_toArray, List.getElem?_cons_zero, List.getElem?_cons_succ, Option.some.injEq] at ho
      subst ho
      obtain rfl := F2 (hd ⟨2, .data⟩ (by simp) rfl)
      obtain rfl := F3 (hd ⟨3, .data⟩ (by simp) rfl)
      obtain rfl := F1 (hd ⟨1, .guard⟩ (by simp) rfl)
      refine wpOp_step rfl (fun K hK => ?_)
      go_simp
      refine hK _ _ ?_
      exact ⟨_, _, _, _, _, _, _, _, _, _, _, _, _, rfl, lk F0, lk F1, lk F2, lk F3, fun _ => rfl, lk F5, lk F6, lk F7, lk F8, lk F9, lk F10, lk F11, lk F12, F13, F14, F15, fun h => F16 (lsf (by decide) h), fun h => la (F17 (ls (by decide) h))⟩
    · simp only [List.getElem?_toArray, List.getElem?_cons_zero, List.getElem?_cons_succ, Option.some.injEq] at ho
      subst ho
      obtain rfl := F4 (hd ⟨4, .data⟩ (by simp) rfl)
      obtain rfl := F1 (hd ⟨1, .guard⟩ (by simp) rfl)
      have h0 := F15
      refine wpOp_step rfl (fun K hK => ?_)
      go_simp
      refine hK _ _ ?_
      exact ⟨_, _, _, _, _, _, _, _, _, _, _, _, _, rfl, lk F0, lk F1, lk F2, lk F3, lk F4, fun _ => rfl, lk F6, lk F7, lk F8, lk F9, lk F10, lk F11, lk F12, F13, F14, F15, fun h => F16 (lsf (by decide) h), fun h => la (F17 (ls (by decide) h))⟩
    · simp only [List.getElem?_toArray, List.getElem?_cons_zero, List.getElem?_cons_succ, Option.some.injEq] at ho
      subst ho
      obtain rfl := F1 (hd ⟨1, .guard⟩ (by simp) rfl)
      refine wpOp_step rfl (fun K hK => ?_)
      go_simp
      refine hK _ _ ?_
      exact ⟨_, _, _, _, _, _, _, _, _, _, _, _, _, rfl, lk F0, lk F1, lk F2, lk F3, lk F4, lk F5, fun _ => rfl, lk F7, lk F8, lk F9, lk F10, lk F11, lk F12, F13, F14, F15, fun h => F16 (lsf (by decide) h), fun h => la (F17 (ls (by decide) h))⟩
    · simp only [List.getElem?_toArray, List.getElem?_cons_zero, List.getElem?_cons_succ, Option.some.injEq] at ho
      subst ho
      obtain rfl := F1 (hd ⟨1, .guard⟩ (by simp) rfl)
      refine wpOp_step rfl (fun K hK => ?_)
      go_simp
      refine hK _ _ ?_
      exact ⟨_, _, _, _, _, _, _, _, _, _, _, _, _, rfl, lk F0, lk F1, lk F2, lk F3, lk F4, lk F5, lk F6, fun _ => rfl, lk F8, lk F9, lk F10, lk F11, lk F12, F13, F14, F15, fun h => F16 (lsf (by decide) h), fun h => la (F17 (ls (by decide) h))⟩
    · simp only [List.getElem?_toArray, List.getElem?_cons_zero, List.getElem?_cons_succ, Option.some.injEq] at ho
      subst ho
      obtain rfl := F6 (hd ⟨6, .data⟩ (by simp) rfl)
      obtain rfl := F7 (hd ⟨7, .data⟩ (by simp) rfl)
      obtain rfl := F1 (hd ⟨1, .guard⟩ (by simp) rfl)
      refine wpOp_step rfl (fun K hK => ?_)
      go_simp
      refine hK _ _ ?_
      exact ⟨_, _, _, _, _, _, _, _, _, _, _, _, _, rfl, lk F0, lk F1, lk F2, lk F3, lk F4, lk F5, lk F6, lk F7, fun _ => rfl, lk F9, lk F10, lk F11, lk F12, F13, F14, F15, fun h => F16 (lsf (by decide) h), fun h => la (F17 (ls (by decide) h))⟩
    · simp only [List.getElem?_toArray, List.getElem?_cons_zero, List.getElem?_cons_succ, Option.some.injEq] at ho
      subst ho
      obtain rfl := F8 (hd ⟨8, .data⟩ (by simp) rfl)
      obtain rfl := F1 (hd ⟨1, .guard⟩ (by simp) rfl)
      have h0 := F14
      refine wpOp_step rfl (fun K hK => ?_)
      go_simp
      refine hK _ _ ?_
      exact ⟨_, _, _, _, _, _, _, _, _, _, _, _, _, rfl, lk F0, lk F1, lk F2, lk F3, lk F4, lk F5, lk F6, lk F7, lk F8, fun _ => rfl, lk F10, lk F11, lk F12, F13, F14, F15, fun h => F16 (lsf (by decide) h), fun h => la (F17 (ls (by decide) h))⟩
    · simp only [List.getElem?_toArray, List.getElem?_cons_zero, List.getElem?_cons_succ, Option.some.injEq] at ho
      subst ho
      obtain rfl := F5 (hd ⟨5, .data⟩ (by simp) rfl)
      obtain rfl := F9 (hd ⟨9, .data⟩ (by simp) rfl)
      obtain rfl := F1 (hd ⟨1, .guard⟩ (by simp) rfl)
      refine wpOp_step rfl (fun K hK => ?_)
      go_simp
      refine hK _ _ ?_
      exact ⟨_, _, _, _, _, _, _, _, _, _, _, _, _, rfl, lk F0, lk F1, lk F2, lk F3, lk F4, lk F5, lk F6, lk F7, lk F8, lk F9, fun _ => rfl, lk F11, lk F12, F13, F14, F15, fun h => F16 (lsf (by decide) h), fun h => la (F17 (ls (by decide) h))⟩
    · simp only [List.getElem?_toArray, List.getElem?_cons_zero, List.getElem?_cons_succ, Option.some.injEq] at ho
      subst ho
      obtain rfl := F1 (hd ⟨1, .data⟩ (by simp) rfl)
      obtain rfl := F10 (hd ⟨10, .data⟩ (by simp) rfl)
      refine wpOp_step rfl (fun K hK => ?_)
      go_simp
      refine hK _ _ ?_
      exact ⟨_, _, _, _, _, _, _, _, _, _, _, _, _, rfl, lk F0, lk F1, lk F2, lk F3, lk F4, lk F5, lk F6, lk F7, lk F8, lk F9, lk F10, fun _ => rfl, lk F12, F13, F14, F15, fun h => F16 (lsf (by decide) h), fun h => la (F17 (ls (by decide) h))⟩
    · simp only [List.getElem?_toArray, List.getElem?_cons_zero, List.getElem?_cons_succ, Option.some.injEq] at ho
      subst ho
      obtain rfl := F11 (hd ⟨11, .data⟩ (by simp) rfl)
      refine wpOp_step rfl (fun K hK => ?_)
      go_simp
      refine hK _ _ ?_
      exact ⟨_, _, _, _, _, _, _, _, _, _, _, _, _, rfl, lk F0, lk F1, lk F2, lk F3, lk F4, lk F5, lk F6, lk F7, lk F8, lk F9, lk F10, lk F11, fun _ => rfl, F13, F14, F15, fun h => lx hn h, fun _ => la (hd ⟨0, .phase⟩ (by simp) rfl)⟩
  · intro listed A w hall hI
    unfold LfI at hI
    obtain ⟨s8, hI⟩ := hI
    obtain ⟨s28, hI⟩ := hI
    obtain ⟨s29, hI⟩ := hI
    obtain ⟨s30, hI⟩ := hI
    obtain ⟨s31, hI⟩ := hI
    obtain ⟨s32, hI⟩ := hI
    obtain ⟨s33, hI⟩ := hI
    obtain ⟨s34, hI⟩ := hI
    obtain ⟨s35, hI⟩ := hI
    obtain ⟨s36, hI⟩ := hI
    obtain ⟨s37, hI⟩ := hI
    obtain ⟨s38, hI⟩ := hI
    obtain ⟨s39, hI⟩ := hI
    obtain ⟨rfl, hI⟩ := hI
    obtain ⟨F0, hI⟩ := hI
    obtain ⟨F1, hI⟩ := hI
    obtain ⟨F2, hI⟩ := hI
    obtain ⟨F3, hI⟩ := hI
    obtain ⟨F4, hI⟩ := hI
    obtain ⟨F5, hI⟩ := hI
    obtain ⟨F6, hI⟩ := hI
    obtain ⟨F7, hI⟩ := hI
    obtain ⟨F8, hI⟩ := hI
    obtain ⟨F9, hI⟩ := hI
    obtain ⟨F10, hI⟩ := hI
    obtain ⟨F11, hI⟩ := hI
    obtain ⟨F12, hI⟩ := hI
    obtain ⟨F13, hI⟩ := hI
    obtain ⟨F14, hI⟩ := hI
    obtain ⟨F15, hI⟩ := hI
    obtain ⟨F16, hI⟩ := hI
    have F17 := hI; clear hI
    obtain rfl := F0 (hall 0 (by decide))
    obtain rfl := F1 (hall 1 (by decide))
    obtain rfl := F2 (hall 2 (by decide))
    obtain rfl := F3 (hall 3 (by decide))
    obtain rfl := F4 (hall 4 (by decide))
    obtain rfl := F5 (hall 5 (by decide))
    obtain rfl := F6 (hall 6 (by decide))
    obtain rfl := F7 (hall 7 (by decide))
    obtain rfl := F8 (hall 8 (by decide))
    obtain rfl := F9 (hall 9 (by decide))
    obtain rfl := F10 (hall 10 (by decide))
    obtain rfl := F11 (hall 11 (by decide))
    obtain rfl := F12 (hall 12 (by decide))
    have HB := F13
    have Q0 := F14
    have Q1 := F15
    have Q3 := F17
    exact hQ _ trivial HB
end Go.Proofs.YtjpopmgnhgancaaDoor
namespace Go.Proofs.YtjpopmgnhgancaaDoor
open Go.RowKit Go.Lib
set_option maxRecDepth 100000
set_option maxHeartbeats 16000000
theorem take_all_succ (p : Nat → Bool) (L : List Nat) (i x : Nat) (h : L[i]? = some x) : (L.take (i + 1)).all p = ((L.take i).all p && p x) := by
  rw [List.take_add_one, h, List.all_append]; simp
theorem take_any_succ (L : List Nat) (i x y : Nat) (h : L[i]? = some y) : (L.take (i + 1)).contains x = ((L.take i).contains x || ((y : Int) == (x : Int))) := by
  rw [List.take_add_one, h]
  by_cases e : x = y
  · subst e; simp
  · have : ((y : Int) == (x : Int)) = false := by simp; omega
    rw [this]; simp [e]
theorem lies_walk (ai ao bi bo : Nat) (an bn : List UInt8) (ha : ai ≤ 13) (hb : bi ≤ 13) (w : World) :
    Calls Tryd.prog 18 #[.agg #[.int .i64 (ai : Nat), .string (ba' an), .int .i64 (ao : Nat)], .agg #[.int .i64 (bi : Nat), .string (ba' bn), .int .i64 (bo : Nat)]] w fun e w' => e = .returned (.bool (liesR ⟨ai, an⟩ ⟨bi, bn⟩)) ∧ Below w.heap.size w w' := by
  have HLa : Hid (∀ w1 : World, Calls Tryd.prog 43 #[.int .i64 (ai : Nat)] w1 fun e w' => ∃ A, e = .returned (.slice A (leavesL ai).length (leavesL ai).length) ∧ IRow w' A (leavesL ai) ∧ Below w1.heap.size w1 w') := Lib.hid fun w1 => leaves_any ai ha w1
  have HLb : Hid (∀ w1 : World, Calls Tryd.prog 43 #[.int .i64 (bi : Nat)] w1 fun e w' => ∃ A, e = .returned (.slice A (leavesL bi).length (leavesL bi).length) ∧ IRow w' A (leavesL bi) ∧ Below w1.heap.size w1 w') := Lib.hid fun w1 => leaves_any bi hb w1
  obtain ⟨r, hr⟩ : ∃ r, liesR ⟨ai, an⟩ ⟨bi, bn⟩ = r := ⟨_, rfl⟩
  have HR : Hid ((subL (leavesL ai) (leavesL bi) && (decide (bn = []) || (decide (ai = 0) || (decide (an = bn) && decide (ai = bi))))) = r) := Lib.hid hr
  rw [hr]
  have hnl : (leavesL ai).length ≤ 11 ∧ (leavesL bi).length ≤ 11 := by
    have key : ∀ i : Fin 14, (leavesL i.1).length ≤ 11 := by decide
    exact ⟨key ⟨ai, by omega⟩, key ⟨bi, by omega⟩⟩
  obtain ⟨L, hL⟩ : ∃ L, leavesL ai = L := ⟨_, rfl⟩
  obtain ⟨M, hM⟩ : ∃ M, leavesL bi = M := ⟨_, rfl⟩
  rw [hL] at HLa HR hnl
  rw [hM] at HLb HR hnl
  clear hr hL hM ha hb
  obtain ⟨n5, hn5⟩ : ∃ n, L.length = n := ⟨_, rfl⟩
  obtain ⟨n6, hn6⟩ : ∃ n, M.length = n := ⟨_, rfl⟩
  rw [hn5] at HLa hnl
  rw [hn6] at HLb hnl
  have HN5 := Lib.hid hn5
  have HN6 := Lib.hid hn6
  obtain ⟨l5, l6⟩ := hnl
  clear hn5 hn6
  go_enter Tryd.func18, Tryd.ntmps18
  go_wp2_with fail
  refine (HLa.out _).mono ?_
  rintro e w1 ⟨A5, rfl, hi5, hb1⟩
  have B1 : Below w.heap.size w w1 := (by repeat (with_reducible (first | exact Below.refl _ _ | assumption | apply ba | apply bd | apply bdr | (refine bs ?_ (by first | assumption | (simp; done) | (simp; omega))) | (refine bt ?_ (by assumption)))))
  have hc1_0 := fun o => (bcell hb1).1 (w.heap.size) o (by first | (simp; done) | assumption | (simp; omega))
  have zz1_0 : w.heap.size < w1.heap.size := zz hb1 (by first | (simp; done) | assumption | (simp; omega))
  have hc1_1 := fun o => (bcell hb1).1 (w.heap.size + 1) o (by first | (simp; done) | assumption | (simp; omega))
  have zz1_1 : w.heap.size + 1 < w1.heap.size := zz hb1 (by first | (simp; done) | assumption | (simp; omega))
  go_wp2_with fail
  refine (HLb.out _).mono ?_
  rintro e w2 ⟨A6, rfl, hi6, hb2⟩
  have B2 : Below w.heap.size w w2 := (by repeat (with_reducible (first | exact Below.refl _ _ | assumption | apply ba | apply bd | apply bdr | (refine bs ?_ (by first | assumption | (simp; done) | (simp; omega))) | (refine bt ?_ (by assumption)))))
  have hc2_0 := fun o => (bcell hb2).1 (w.heap.size) o (by first | (simp; done) | assumption | (simp; omega))
  have zz2_0 : w.heap.size < w2.heap.size := zz hb2 (by first | (simp; done) | assumption | (simp; omega))
  have hc2_1 := fun o => (bcell hb2).1 (w.heap.size + 1) o (by first | (simp; done) | assumption | (simp; omega))
  have zz2_1 : w.heap.size + 1 < w2.heap.size := zz hb2 (by first | (simp; done) | assumption | (simp; omega))
  have I5 := Lib.hid (hi5.below hb2)
  have I6 := Lib.hid hi6
  have e0 : w2.cell? ⟨w.heap.size, 0, none⟩ = some (.int .i64 (ai : Nat)) := by rw [hc2_0, hc1_0]; go_simp
  have e1 : w2.cell? ⟨w.heap.size, 1, none⟩ = some (.string (ba' an)) := by rw [hc2_0, hc1_0]; go_simp
  have e2 : w2.cell? ⟨w.heap.size + 1, 0, none⟩ = some (.int .i64 (bi : Nat)) := by rw [hc2_1, hc1_1]; go_simp
  have e3 : w2.cell? ⟨w.heap.size + 1, 1, none⟩ = some (.string (ba' bn)) := by rw [hc2_1, hc1_1]; go_simp
  have HB2 := Lib.hid B2
  clear hi5 hi6 hb1 hb2 B1 B2 hc1_0 hc1_1 hc2_0 hc2_1 zz1_0 zz1_1 HLa HLb
  go_wp2
  go_loopw [7] (fun s7 wx => ∃ i : Nat, s7 = .int .i64 (i : Nat) ∧ i ≤ n5 ∧ Hid ((L.take i).all (fun x => M.contains x) = true) ∧ Below w2.heap.size w2 wx) (fun s7 _ => n5 - (intOf s7).toNat)
  case atStart => exact ⟨0, rfl, Nat.zero_le _, Lib.hid (by simp), Below.refl _ _⟩
  case round =>
    obtain ⟨i, rfl, hi, HAL, hB⟩ := hrel
    have HB := Lib.hid hB
    have q0 := cell_call e0 hB
    have q1 := cell_call e1 hB
    have q2 := cell_call e2 hB
    have q3 := cell_call e3 hB
    by_cases hlt : i < n5
    · have g1 : decide ((i : Int) < (n5 : Int)) = true := by simp; omega
      have g1' : decide (i < n5) = true := by simpa using hlt
      obtain ⟨x, hx⟩ : ∃ x, L[i]? = some x := ⟨_, List.getElem?_eq_getElem (by rw [HN5.out]; exact hlt)⟩
      rcases I5.out with ⟨e, _⟩ | ⟨g5, rfl, z5, r5⟩
      · exfalso; have := HN5.out; rw [e] at this; simp at this; omega
      have d5 := cell_call (r5 i x hx) hB
      have HX := Lib.hid hx
      clear r5 hx
      go_wp2
      go_loopw [8, 9] (fun s8 s9 wy => ∃ k : Nat, s8 = .bool ((M.take k).contains x) ∧ s9 = .int .i64 (k : Nat) ∧ k ≤ n6 ∧ Below wr.heap.size wr wy) (fun _ s9 _ => n6 - (intOf s9).toNat)
      case atStart => exact ⟨0, by simp, rfl, Nat.zero_le _, Below.refl _ _⟩
      case round =>
        obtain ⟨k, rfl, rfl, hk, hB3⟩ := hrel
        have HB3 := Lib.hid hB3
        by_cases hlt2 : k < n6
        · have g2 : decide ((k : Int) < (n6 : Int)) = true := by simp; omega
          have g2' : decide (k < n6) = true := by simpa using hlt2
          obtain ⟨y, hy⟩ : ∃ y, M[k]? = some y := ⟨_, List.getElem?_eq_getElem (by rw [HN6.out]; exact hlt2)⟩
          rcases I6.out with ⟨e, _⟩ | ⟨g6, rfl, z6, r6⟩
          · exfalso; have := HN6.out; rw [e] at this; simp at this; omega
          have d6 := cell_call (cell_call (r6 k y hy) HB.out) hB3
          have d5' := cell_call d5 hB3
          have hnx := take_any_succ M k x y hy
          clear r6 hy
          clear q0 q1 q2 q3 e0 e1 e2 e3
          cases hb : (M.take k).contains x with
          | true =>
            rw [hb, Bool.true_or] at hnx
            go_wp2
            refine Lt_region g5 g6 n5 n6 i k wr (Below.refl _ _) rfl ?_
            intro w7 _ hb7
            go_wp2
            go_roundw
            case measure => simp [intOf]; omega
            case rel => exact ⟨k + 1, by rw [hnx], by simp, by omega, bt HB3.out hb7⟩
          | false =>
            rw [hb, Bool.false_or] at hnx
            go_wp2
            refine Lf_region g5 g6 n5 n6 i k x y wr (Below.refl _ _) d5' d6 rfl hlt hlt2 g1' g2' ?_
            intro w7 _ hb7
            go_wp2
            go_roundw
            case measure => simp [intOf]; omega
            case rel => exact ⟨k + 1, by rw [hnx], by simp, by omega, bt HB3.out hb7⟩
        · have g2 : decide ((k : Int) < (n6 : Int)) = false := by simp; omega
          have g2' : decide (k < n6) = false := by simpa using hlt2
          have hkn : k = M.length := by have := HN6.out; omega
          rw [hkn, List.take_length]
          have hal := take_all_succ (fun x => M.contains x) L i x HX.out
          simp only [HAL.out, Bool.true_and] at hal
          cases hb : M.contains x with
          | true =>
            rw [hb] at hal
            have HAL2 := Lib.hid hal
            go_wp2
            go_roundw
            case measure => simp [intOf]; omega
            case rel => exact ⟨i + 1, by simp, by omega, HAL2, bt HB.out HB3.out⟩
          | false =>
            have hrf : false = r := by
              have h := HR.out
              have e : subL L M = false := by
                unfold subL
                cases hh : L.all (fun x => M.contains x) with
                | false => rfl
                | true =>
                  have := List.all_eq_true.1 hh x (List.mem_of_getElem? HX.out)
                  simp only [hb] at this
                  cases this
              rw [e, Bool.false_and] at h
              exact h
            subst hrf
            go_wp2
            go_ret
            exact ⟨rfl, bt HB2.out (bt HB.out HB3.out)⟩
    · have g1 : decide ((i : Int) < (n5 : Int)) = false := by simp; omega
      have g1' : decide (i < n5) = false := by simpa using hlt
      have hin : i = L.length := by have := HN5.out; omega
      have hsub : subL L M = true := by have h := HAL.out; rw [hin, List.take_length] at h; exact h
      have hR := HR.out
      rw [hsub, Bool.true_and] at hR
      have HBF := Lib.hid (bt HB2.out HB.out)
      clear HR HAL hsub e0 e1 e2 e3
      by_cases hbn : bn = []
      · subst hbn
        have g5 : (ba' []).toList.isEmpty = true := by rw [toList_ba]; rfl
        have g6 : (ba' []).toList = [] := toList_ba []
        have hrt : true = r := by simpa using hR
        subst hrt
        go_wp2
        go_ret
        exact ⟨rfl, HBF.out⟩
      · have g5 : (ba' bn).toList.isEmpty = false := by rw [toList_ba]; simpa using hbn
        have g6 : ((ba' bn).toList = []) = False := by rw [toList_ba]; simpa using hbn
        rw [decide_eq_false hbn, Bool.false_or] at hR
        by_cases hai : ai = 0
        · subst hai
          have hrt : true = r := by simpa using hR
          subst hrt
          go_wp2
          go_ret
          exact ⟨rfl, HBF.out⟩
        · have g7 : (ai = 0) = False := by simpa using hai
          have g7b : ((ai : Int) == 0) = false := by simpa using hai
          rw [decide_eq_false hai, Bool.false_or] at hR
          by_cases hnn : an = bn
          · subst hnn
            have g8 : decide ((ai : Int) = (bi : Int)) = decide (ai = bi) := by rw [decide_eq_decide]; omega
            have g8b : ((ai : Int) == (bi : Int)) = decide (ai = bi) := by rw [Bool.eq_iff_iff, beq_iff_eq, decide_eq_true_iff]; omega
            rw [decide_eq_true rfl, Bool.true_and] at hR
            subst hR
            go_wp2
            go_ret
            exact ⟨rfl, HBF.out⟩
          · have g8 : ((ba' an).toList = (ba' bn).toList) = False := by rw [toList_ba, toList_ba]; simpa using hnn
            have g8b : ((ba' an).toList == (ba' bn).toList) = false := by rw [toList_ba, toList_ba]; simpa using hnn
            rw [decide_eq_false hnn, Bool.false_and] at hR
            subst hR
            go_wp2
            go_ret
            exact ⟨rfl, HBF.out⟩
theorem lies_ref (a b : TT) (ha : GT a) (hb : GT b) (w : World) : Calls Tryd.prog 18 #[.agg #[.int .i64 (a.k.i : Nat), .string (ba' a.k.n), .int .i64 (a.o : Nat)], .agg #[.int .i64 (b.k.i : Nat), .string (ba' b.k.n), .int .i64 (b.o : Nat)]] w fun e w' => e = .returned (.bool (lieB a.k b.k)) ∧ Below w.heap.size w w' := by
  have h := lies_walk a.k.i a.o b.k.i b.o a.k.n b.k.n ha.1.1 hb.1.1 w
  rw [show liesR ⟨a.k.i, a.k.n⟩ ⟨b.k.i, b.k.n⟩ = lieB a.k b.k from liesR_is ha.1 hb.1] at h
  exact h
end Go.Proofs.YtjpopmgnhgancaaDoor
