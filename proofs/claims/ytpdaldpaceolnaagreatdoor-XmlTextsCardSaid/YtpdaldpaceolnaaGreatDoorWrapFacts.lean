/- Facts on what Parse answers. No condition beyond what the theorems state. -/
import Derived.Test.YtpdaldpaceolnaaGreatDoorLwCuts
import Derived.Test.YtpdaldpaceolnaaGreatDoorWraps
import Derived.Test.YtpdaldpaceolnaaGreatDoorSame
namespace Go.Proofs.YtpdaldpaceolnaaGreatDoor
open Go.RowKit Go.Lib
set_option maxRecDepth 100000
set_option maxHeartbeats 32000000
/-- A byte of a remark as the statement wants it. -/
def rmk (c : UInt8) : Bool := c != 45 && decide (32 ≤ c.toNat) && decide (c.toNat ≤ 126)
def wrapU (rm s : List UInt8) : List UInt8 := [32, 60, 33, 45, 45] ++ rm ++ [45, 45, 62, 10] ++ s ++ [9]
def wrapZ (s : List UInt8) : List UInt8 := [60, 122, 122, 62] ++ s ++ [60, 47, 122, 122, 62]
theorem wrapU_ba (rm s : List UInt8) : (⟨#[32, 60, 33, 45, 45]⟩ : ByteArray) ++ ba' rm ++ ⟨#[45, 45, 62, 10]⟩ ++ ba' s ++ ⟨#[9]⟩ = ba' (wrapU rm s) := by
  show ba' [32, 60, 33, 45, 45] ++ ba' rm ++ ba' [45, 45, 62, 10] ++ ba' s ++ ba' [9] = _
  rw [ba_app, ba_app, ba_app, ba_app]
  rfl
theorem wrapZ_ba (s : List UInt8) : (⟨#[60, 122, 122, 62]⟩ : ByteArray) ++ ba' s ++ ⟨#[60, 47, 122, 122, 62]⟩ = ba' (wrapZ s) := by
  show ba' [60, 122, 122, 62] ++ ba' s ++ ba' [60, 47, 122, 122, 62] = _
  rw [ba_app, ba_app]
  rfl
/-- What Parse answers, in one form. -/
theorem pv_form {R : XR PT} {w w' : World} {e : Ending} (h : PvPost R w e w') : ∃ (tk : Int) (tn tv : ByteArray) (tA : Option Addr) (tan tac : Nat) (tK : Option Addr) (tkn tkc : Nat) (z : Int), e = .returned (.tuple #[.agg #[.int .i64 tk, .string tn, .string tv, .slice tA tan tac, .slice tK tkn tkc], .int .i64 z]) ∧ Below w.heap.size w w' := by
  cases R with
  | bad => exact ⟨0, ⟨#[]⟩, ⟨#[]⟩, none, 0, 0, none, 0, 0, 61, h.1, h.2⟩
  | nest => exact ⟨0, ⟨#[]⟩, ⟨#[]⟩, none, 0, 0, none, 0, 0, 15, h.1, h.2⟩
  | ok T q =>
    obtain ⟨⟨t, e, _⟩, hb⟩ := h
    obtain ⟨k, n, v, A, ac, ps, K, kc, ks⟩ := t
    exact ⟨k, ba' n, ba' v, A, ps.length, ac, K, ks.length, kc, 0, e, hb⟩
theorem rmk_bad {c : UInt8} (h : rmk c = false) : c.toNat = 45 ∨ (c.toNat ≠ 45 ∧ c.toNat < 32) ∨ (c.toNat ≠ 45 ∧ 32 ≤ c.toNat ∧ 126 < c.toNat) := by
  by_cases h45 : c.toNat = 45
  · exact .inl h45
  by_cases h32 : c.toNat < 32
  · exact .inr (.inl ⟨h45, h32⟩)
  by_cases h126 : 126 < c.toNat
  · exact .inr (.inr ⟨h45, by omega, h126⟩)
  exfalso
  unfold rmk at h
  rw [decide_eq_true (show 32 ≤ c.toNat by omega), decide_eq_true (show c.toNat ≤ 126 by omega), Bool.and_true, Bool.and_true, bne_eq_false_iff_eq] at h
  exact h45 (by rw [h]; rfl)
theorem rmk_good {c : UInt8} (h : rmk c = true) : c.toNat ≠ 45 ∧ 32 ≤ c.toNat ∧ c.toNat ≤ 126 := by
  unfold rmk at h
  simp only [Bool.and_eq_true, bne_iff_ne, decide_eq_true_eq] at h
  refine ⟨fun e => h.1.1 (UInt8.toNat_inj.1 e), h.1.2, h.2⟩
theorem rmk_valid1 : (List.range 95).all (fun i => validX [UInt8.ofNat (i + 32)]) = true := by kernel_rfl
theorem rmk_valid : ∀ rm : List UInt8, (∀ x ∈ rm, rmk x = true) → validX rm = true
  | [], _ => validX_nil
  | c :: rm, h => by
    obtain ⟨_, h1, h2⟩ := rmk_good (h c (.head _))
    have e : validX [c] = true := by
      have := List.all_eq_true.1 rmk_valid1 (c.toNat - 32) (List.mem_range.2 (by omega))
      rw [show c.toNat - 32 + 32 = c.toNat by omega, UInt8.ofNat_toNat] at this
      exact this
    exact vx_app (a := [c]) e (rmk_valid rm fun x hx => h x (.tail _ hx))
theorem parseF_valid {s : List UInt8} {T : PT} {q : List UInt8} (h : parseF s = .ok T q) : validX s = true := by
  unfold parseF at h
  split at h
  · assumption
  · cases h
theorem parse_wrapU {s rm : List UInt8} {ks : List PT} {q : List UInt8} (h : parseF s = .ok (.mk 1 [] [] [] ks) q) (hr : ∀ x ∈ rm, rmk x = true) : parseF (wrapU rm s) = .ok (.mk 1 [] [] [] (.mk 5 [] rm [] [] :: ks)) [] := by
  have hv : validX (wrapU rm s) = true := by
    unfold wrapU
    exact vx_app (vx_app (vx_app (vx_app (by kernel_rfl) (rmk_valid rm hr)) (by kernel_rfl)) (parseF_valid h)) (by kernel_rfl)
  unfold parseF
  rw [if_pos hv]
  exact wrap_doc (parseF_ok h) fun x hx => by
    obtain ⟨h1, h2, _⟩ := rmk_good (hr x hx)
    exact ⟨fun e => h1 (by rw [e]; rfl), fun e => by rw [e] at h2; revert h2; decide⟩
theorem parse_wrapZ {s : List UInt8} {ks : List PT} {q : List UInt8} (h : parseF s = .ok (.mk 1 [] [] [] ks) q) : parseF (wrapZ s) = .nest ∨ ∃ a t b ks1 ks2, ks = a ++ [t] ++ b ∧ (∀ x ∈ a, x.k = 5) ∧ (∀ x ∈ b, x.k = 5) ∧ t.k = 2 ∧ (∀ x ∈ ks1, x.k ≠ 2) ∧ (∀ x ∈ ks2, x.k ≠ 2) ∧ parseF (wrapZ s) = .ok (.mk 1 [] [] [] [.mk 2 [122, 122] [] [] (ks1 ++ [t] ++ ks2)]) [] := by
  have hv : validX (wrapZ s) = true := by
    unfold wrapZ
    exact vx_app (vx_app (by kernel_rfl) (parseF_valid h)) (by kernel_rfl)
  unfold parseF
  rw [if_pos hv]
  exact zz_doc (parseF_ok h)
theorem ok_form {R : XR PT} {w w' : World} {tk : Int} {tn tv : ByteArray} {tA : Option Addr} {tan tac : Nat} {tK : Option Addr} {tkn tkc : Nat} {z : Int} (h : PvPost R w (.returned (.tuple #[.agg #[.int .i64 tk, .string tn, .string tv, .slice tA tan tac, .slice tK tkn tkc], .int .i64 z])) w') : (R = .bad ∧ z = 61) ∨ (R = .nest ∧ z = 15) ∨ (∃ T q, R = .ok T q ∧ z = 0 ∧ ∃ (n v : List UInt8) (ps : List (List UInt8 × List UInt8)) (ks : List Tr), tn = ba' n ∧ tv = ba' v ∧ tan = ps.length ∧ tkn = ks.length ∧ (Tr.mk tk n v tA tac ps tK tkc ks).pl = T ∧ (Tr.mk tk n v tA tac ps tK tkc ks).In (NewB w w') w' ∧ (Tr.mk tk n v tA tac ps tK tkc ks).Caps) := by
  cases R with
  | bad =>
    have h1 := h.1
    simp only [zeroV, Ending.returned.injEq, Value.tuple.injEq, Array.mk.injEq, List.cons.injEq, Value.int.injEq] at h1
    exact .inl ⟨rfl, h1.2.1.2⟩
  | nest =>
    have h1 := h.1
    simp only [zeroV, Ending.returned.injEq, Value.tuple.injEq, Array.mk.injEq, List.cons.injEq, Value.int.injEq] at h1
    exact .inr (.inl ⟨rfl, h1.2.1.2⟩)
  | ok T q =>
    obtain ⟨⟨t, h1, hp, hin, hc⟩, _⟩ := h
    obtain ⟨k, n, v, A, ac, ps, K, kc, ks⟩ := t
    simp only [Tr.v, Ending.returned.injEq, Value.tuple.injEq, Array.mk.injEq, List.cons.injEq, Value.int.injEq, Value.agg.injEq, Value.string.injEq, Value.slice.injEq, true_and, and_true] at h1
    obtain ⟨⟨rfl, rfl, rfl, ⟨rfl, rfl, rfl⟩, ⟨rfl, rfl, rfl⟩⟩, rfl⟩ := h1
    exact .inr (.inr ⟨T, q, rfl, rfl, n, v, ps, ks, rfl, rfl, rfl, rfl, hp, hin, hc⟩)
theorem tr_first {L : List Tr} {ks : List PT} {u0 : PT} (h : plL L = u0 :: ks) : ∃ u L', L = u :: L' ∧ u.pl = u0 ∧ plL L' = ks := by
  rw [plL_map] at h
  cases L with
  | nil => cases h
  | cons u L' =>
    rw [List.map_cons] at h
    obtain ⟨h1, h2⟩ := List.cons.inj h
    exact ⟨u, L', rfl, h1, by rw [plL_map]; exact h2⟩
theorem tr_at {L L' : List Tr} (h : plL L = plL L') {i : Nat} {x y : Tr} (hx : L[i]? = some x) (hy : L'[i]? = some y) : x.pl = y.pl := by
  have h1 := plL_at hx
  have h2 := plL_at hy
  rw [h, h2] at h1
  exact (Option.some.inj h1).symm
theorem fit_kids {k : Int} {n v : List UInt8} {ps : List (List UInt8 × List UInt8)} {ks : List PT} (h : (PT.mk k n v ps ks).bulk ≤ 1048576) : ∀ t ∈ ks, t.fit := by
  intro t ht
  refine fit_of_bulk ?_
  rw [PT.bulk] at h
  have : t.bulk ≤ bulkL ks := by
    clear h
    induction ks with
    | nil => cases ht
    | cons a ks ih =>
      rw [bulkL]
      rcases List.mem_cons.1 ht with rfl | ht
      · omega
      · have := ih ht; omega
  omega
theorem kids_len {k : Int} {n v : List UInt8} {ps : List (List UInt8 × List UInt8)} {ks : List PT} (h : (PT.mk k n v ps ks).bulk ≤ 1048576) : ks.length ≤ 1048576 := by
  rw [PT.bulk] at h
  have : ks.length ≤ bulkL ks := by
    clear h
    induction ks with
    | nil => exact Nat.zero_le _
    | cons a ks ih =>
      obtain ⟨ak, an, av, aps, aks⟩ := a
      rw [bulkL, PT.bulk, List.length_cons]
      omega
  omega
theorem parseF_bulk {s : List UInt8} {T : PT} {q : List UInt8} (h : parseF s = .ok T q) (hs : s.length ≤ 200000) : T.bulk ≤ 1048576 := by
  have := doc_bulk (parseF_ok h)
  have := lines_len s
  omega
theorem parseF_tree {s : List UInt8} {T : PT} {q : List UInt8} (h : parseF s = .ok T q) : ∃ ks, T = .mk 1 [] [] [] ks := by
  obtain ⟨a, r, t, r2, b, _, _, _, hT, _⟩ := doc_parts (parseF_ok h)
  exact ⟨_, hT⟩
theorem mid_kind {a b : List PT} {t0 : PT} (ha : ∀ x ∈ a, x.k ≠ 2) (hb : ∀ x ∈ b, x.k ≠ 2) (ht : t0.k = 2) {i : Nat} {p : PT} (h : (a ++ [t0] ++ b)[i]? = some p) : p.k = 2 ↔ i = a.length := by
  rw [List.append_assoc] at h
  by_cases h1 : i < a.length
  · rw [List.getElem?_append_left h1] at h
    exact ⟨fun e => absurd e (ha p (List.mem_of_getElem? h)), fun e => by omega⟩
  · rw [List.getElem?_append_right (by omega)] at h
    by_cases h2 : i = a.length
    · subst h2
      rw [Nat.sub_self] at h
      simp at h
      subst h
      exact ⟨fun _ => rfl, fun _ => ht⟩
    · obtain ⟨k, hk⟩ : ∃ k, i - a.length = k + 1 := ⟨i - a.length - 1, by omega⟩
      rw [hk] at h
      simp at h
      exact ⟨fun e => absurd e (hb p (List.mem_of_getElem? h)), fun e => absurd e h2⟩
theorem mid_at (a b : List PT) (t0 : PT) : (a ++ [t0] ++ b)[a.length]? = some t0 := by
  rw [List.append_assoc, List.getElem?_append_right (Nat.le_refl _), Nat.sub_self]
  rfl
def atF (na i : Nat) : Int := if na < i then (na : Int) else -1
def nF (n1 i : Nat) : Int := if n1 < i then 1 else 0
theorem atF_zero (na : Nat) : atF na 0 = -1 := by unfold atF; rw [if_neg (by omega)]
theorem nF_zero (n1 : Nat) : nF n1 0 = 0 := by unfold nF; rw [if_neg (by omega)]
theorem atF_hit (na : Nat) : atF na (na + 1) = (na : Int) := by unfold atF; rw [if_pos (by omega)]
theorem atF_miss {na i : Nat} (h : i ≠ na) : atF na (i + 1) = atF na i := by
  unfold atF
  by_cases h1 : na < i
  · rw [if_pos h1, if_pos (by omega)]
  · rw [if_neg h1, if_neg (by omega)]
theorem nF_miss {na i : Nat} (h : i ≠ na) : nF na (i + 1) = nF na i := by
  unfold nF
  by_cases h1 : na < i
  · rw [if_pos h1, if_pos (by omega)]
  · rw [if_neg h1, if_neg (by omega)]
theorem atF_end {na m : Nat} (h : na < m) : atF na m = (na : Int) := by unfold atF; rw [if_pos h]
theorem nF_end {n1 m : Nat} (h : n1 < m) : nF n1 m = 1 := by unfold nF; rw [if_pos h]
theorem nF_hit (n1 : Nat) : nF n1 (n1 + 1) = 1 := by unfold nF; rw [if_pos (by omega)]
theorem nF_at (n1 : Nat) : nF n1 n1 = 0 := by unfold nF; rw [if_neg (by omega)]
theorem tr_some {L : List Tr} {ks : List PT} (h : plL L = ks) {i : Nat} {p : PT} (hp : ks[i]? = some p) : ∃ t, L[i]? = some t ∧ t.pl = p := by
  rw [plL_map] at h
  subst h
  rw [List.getElem?_map] at hp
  cases ht : L[i]? with
  | none => rw [ht] at hp; cases hp
  | some t =>
    rw [ht] at hp
    exact ⟨t, rfl, Option.some.inj hp⟩
end Go.Proofs.YtpdaldpaceolnaaGreatDoor
