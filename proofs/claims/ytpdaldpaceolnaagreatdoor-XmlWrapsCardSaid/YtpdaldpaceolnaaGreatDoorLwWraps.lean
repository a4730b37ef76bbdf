/- The statement XmlWraps: its walk. No condition beyond what the theorems state. -/
import Derived.Test.YtpdaldpaceolnaaGreatDoorLwCuts
import Derived.Test.YtpdaldpaceolnaaGreatDoorWraps
namespace Go.Proofs.YtpdaldpaceolnaaGreatDoor
open Go.RowKit Go.Lib
set_option maxRecDepth 100000
set_option maxHeartbeats 32000000
/-- A byte of a remark as the statement wants it. -/
def rmk (c : UInt8) : Bool := c != 45 && decide (32 ≤ c.toNat) && decide (c.toNat ≤ 126)
def wrapU (rm s : List UInt8) : List UInt8 := [32, 60, 33, 45, 45] ++ rm ++ [45, 45, 62, 10] ++ s ++ [9]
def wrapZ (s : List UInt8) : List UInt8 := [60, 122, 122, 62] ++ s ++ [60, 47, 122, 122, 62]
theorem wrapU_ba (rm s : List UInt8) : (⟨#[32, 60, 33, 45, 45]⟩ : ByteArray) ++ ba' rm ++ ⟨#[45, 45, 62, 10]⟩ ++ ba' s ++ ⟨#[9]⟩ = ba' (wrapU rm s) := by
  show ba' [32, 60, 33, 45, 45] ++ ba' rm ++ ba' [45, 45, 62, 10] ++ ba' s ++ ba' [9] = _
  rw [ba_app, ba_app, ba_app, ba_app]
  rfl
theorem wrapZ_ba (s : List UInt8) : (⟨#[60, 122, 122, 62]⟩ : ByteArray) ++ ba' s ++ ⟨#[60, 47, 122, 122, 62]⟩ = ba' (wrapZ s) := by
  show ba' [60, 122, 122, 62] ++ ba' s ++ ba' [60, 47, 122, 122, 62] = _
  rw [ba_app, ba_app]
  rfl
/-- What Parse answers, in one form. -/
theorem pv_form {R : XR PT} {w w' : World} {e : Ending} (h : PvPost R w e w') : ∃ (tk : Int) (tn tv : ByteArray) (tA : Option Addr) (tan tac : Nat) (tK : Option Addr) (tkn tkc : Nat) (z : Int), e = .returned (.tuple #[.agg #[.int .i64 tk, .string tn, .string tv, .slice tA tan tac, .slice tK tkn tkc], .int .i64 z]) ∧ Below w.heap.size w w' := by
  cases R with
  | bad => exact ⟨0, ⟨#[]⟩, ⟨#[]⟩, none, 0, 0, none, 0, 0, 61, h.1, h.2⟩
  | nest => exact ⟨0, ⟨#[]⟩, ⟨#[]⟩, none, 0, 0, none, 0, 0, 15, h.1, h.2⟩
  | ok T q =>
    obtain ⟨⟨t, e, _⟩, hb⟩ := h
    obtain ⟨k, n, v, A, ac, ps, K, kc, ks⟩ := t
    exact ⟨k, ba' n, ba' v, A, ps.length, ac, K, ks.length, kc, 0, e, hb⟩
theorem rmk_bad {c : UInt8} (h : rmk c = false) : c.toNat = 45 ∨ (c.toNat ≠ 45 ∧ c.toNat < 32) ∨ (c.toNat ≠ 45 ∧ 32 ≤ c.toNat ∧ 126 < c.toNat) := by
  by_cases h45 : c.toNat = 45
  · exact .inl h45
  by_cases h32 : c.toNat < 32
  · exact .inr (.inl ⟨h45, h32⟩)
  by_cases h126 : 126 < c.toNat
  · exact .inr (.inr ⟨h45, by omega, h126⟩)
  exfalso
  unfold rmk at h
  rw [decide_eq_true (show 32 ≤ c.toNat by omega), decide_eq_true (show c.toNat ≤ 126 by omega), Bool.and_true, Bool.and_true, bne_eq_false_iff_eq] at h
  exact h45 (by rw [h]; rfl)
theorem rmk_good {c : UInt8} (h : rmk c = true) : c.toNat ≠ 45 ∧ 32 ≤ c.toNat ∧ c.toNat ≤ 126 := by
  unfold rmk at h
  simp only [Bool.and_eq_true, bne_iff_ne, decide_eq_true_eq] at h
  refine ⟨fun e => h.1.1 (UInt8.toNat_inj.1 e), h.1.2, h.2⟩
theorem rmk_valid1 : (List.range 95).all (fun i => validX [UInt8.ofNat (i + 32)]) = true := by kernel_rfl
theorem rmk_valid : ∀ rm : List UInt8, (∀ x ∈ rm, rmk x = true) → validX rm = true
  | [], _ => validX_nil
  | c :: rm, h => by
    obtain ⟨_, h1, h2⟩ := rmk_good (h c (.head _))
    have e : validX [c] = true := by
      have := List.all_eq_true.1 rmk_valid1 (c.toNat - 32) (List.mem_range.2 (by omega))
      rw [show c.toNat - 32 + 32 = c.toNat by omega, UInt8.ofNat_toNat] at this
      exact this
    exact vx_app (a := [c]) e (rmk_valid rm fun x hx => h x (.tail _ hx))
theorem parseF_valid {s : List UInt8} {T : PT} {q : List UInt8} (h : parseF s = .ok T q) : validX s = true := by
  unfold parseF at h
  split at h
  · assumption
  · cases h
theorem parse_wrapU {s rm : List UInt8} {ks : List PT} {q : List UInt8} (h : parseF s = .ok (.mk 1 [] [] [] ks) q) (hr : ∀ x ∈ rm, rmk x = true) : parseF (wrapU rm s) = .ok (.mk 1 [] [] [] (.mk 5 [] rm [] [] :: ks)) [] := by
  have hv : validX (wrapU rm s) = true := by
    unfold wrapU
    exact vx_app (vx_app (vx_app (vx_app (by kernel_rfl) (rmk_valid rm hr)) (by kernel_rfl)) (parseF_valid h)) (by kernel_rfl)
  unfold parseF
  rw [if_pos hv]
  exact wrap_doc (parseF_ok h) fun x hx => by
    obtain ⟨h1, h2, _⟩ := rmk_good (hr x hx)
    exact ⟨fun e => h1 (by rw [e]; rfl), fun e => by rw [e] at h2; revert h2; decide⟩
theorem parse_wrapZ {s : List UInt8} {ks : List PT} {q : List UInt8} (h : parseF s = .ok (.mk 1 [] [] [] ks) q) : parseF (wrapZ s) = .nest ∨ ∃ a t b ks1 ks2, ks = a ++ [t] ++ b ∧ (∀ x ∈ a, x.k = 5) ∧ (∀ x ∈ b, x.k = 5) ∧ t.k = 2 ∧ (∀ x ∈ ks1, x.k ≠ 2) ∧ (∀ x ∈ ks2, x.k ≠ 2) ∧ parseF (wrapZ s) = .ok (.mk 1 [] [] [] [.mk 2 [122, 122] [] [] (ks1 ++ [t] ++ ks2)]) [] := by
  have hv : validX (wrapZ s) = true := by
    unfold wrapZ
    exact vx_app (vx_app (by kernel_rfl) (parseF_valid h)) (by kernel_rfl)
  unfold parseF
  rw [if_pos hv]
  exact zz_doc (parseF_ok h)
theorem ok_form {R : XR PT} {w w' : World} {tk : Int} {tn tv : ByteArray} {tA : Option Addr} {tan tac : Nat} {tK : Option Addr} {tkn tkc : Nat} {z : Int} (h : PvPost R w (.returned (.tuple #[.agg #[.int .i64 tk, .string tn, .string tv, .slice tA tan tac, .slice tK tkn tkc], .int .i64 z])) w') : (R = .bad ∧ z = 61) ∨ (R = .nest ∧ z = 15) ∨ (∃ T q, R = .ok T q ∧ z = 0 ∧ ∃ (n v : List UInt8) (ps : List (List UInt8 × List UInt8)) (ks : List Tr), tn = ba' n ∧ tv = ba' v ∧ tan = ps.length ∧ tkn = ks.length ∧ (Tr.mk tk n v tA tac ps tK tkc ks).pl = T ∧ (Tr.mk tk n v tA tac ps tK tkc ks).In (NewB w w') w' ∧ (Tr.mk tk n v tA tac ps tK tkc ks).Caps) := by
  cases R with
  | bad =>
    have h1 := h.1
    simp only [zeroV, Ending.returned.injEq, Value.tuple.injEq, Array.mk.injEq, List.cons.injEq, Value.int.injEq] at h1
    exact .inl ⟨rfl, h1.2.1.2⟩
  | nest =>
    have h1 := h.1
    simp only [zeroV, Ending.returned.injEq, Value.tuple.injEq, Array.mk.injEq, List.cons.injEq, Value.int.injEq] at h1
    exact .inr (.inl ⟨rfl, h1.2.1.2⟩)
  | ok T q =>
    obtain ⟨⟨t, h1, hp, hin, hc⟩, _⟩ := h
    obtain ⟨k, n, v, A, ac, ps, K, kc, ks⟩ := t
    simp only [Tr.v, Ending.returned.injEq, Value.tuple.injEq, Array.mk.injEq, List.cons.injEq, Value.int.injEq, Value.agg.injEq, Value.string.injEq, Value.slice.injEq, true_and, and_true] at h1
    obtain ⟨⟨rfl, rfl, rfl, ⟨rfl, rfl, rfl⟩, ⟨rfl, rfl, rfl⟩⟩, rfl⟩ := h1
    exact .inr (.inr ⟨T, q, rfl, rfl, n, v, ps, ks, rfl, rfl, rfl, rfl, hp, hin, hc⟩)
theorem tr_first {L : List Tr} {ks : List PT} {u0 : PT} (h : plL L = u0 :: ks) : ∃ u L', L = u :: L' ∧ u.pl = u0 ∧ plL L' = ks := by
  rw [plL_map] at h
  cases L with
  | nil => cases h
  | cons u L' =>
    rw [List.map_cons] at h
    obtain ⟨h1, h2⟩ := List.cons.inj h
    exact ⟨u, L', rfl, h1, by rw [plL_map]; exact h2⟩
theorem tr_at {L L' : List Tr} (h : plL L = plL L') {i : Nat} {x y : Tr} (hx : L[i]? = some x) (hy : L'[i]? = some y) : x.pl = y.pl := by
  have h1 := plL_at hx
  have h2 := plL_at hy
  rw [h, h2] at h1
  exact (Option.some.inj h1).symm
theorem fit_kids {k : Int} {n v : List UInt8} {ps : List (List UInt8 × List UInt8)} {ks : List PT} (h : (PT.mk k n v ps ks).bulk ≤ 1048576) : ∀ t ∈ ks, t.fit := by
  intro t ht
  refine fit_of_bulk ?_
  rw [PT.bulk] at h
  have : t.bulk ≤ bulkL ks := by
    clear h
    induction ks with
    | nil => cases ht
    | cons a ks ih =>
      rw [bulkL]
      rcases List.mem_cons.1 ht with rfl | ht
      · omega
      · have := ih ht; omega
  omega
theorem kids_len {k : Int} {n v : List UInt8} {ps : List (List UInt8 × List UInt8)} {ks : List PT} (h : (PT.mk k n v ps ks).bulk ≤ 1048576) : ks.length ≤ 1048576 := by
  rw [PT.bulk] at h
  have : ks.length ≤ bulkL ks := by
    clear h
    induction ks with
    | nil => exact Nat.zero_le _
    | cons a ks ih =>
      obtain ⟨ak, an, av, aps, aks⟩ := a
      rw [bulkL, PT.bulk, List.length_cons]
      omega
  omega
theorem parseF_bulk {s : List UInt8} {T : PT} {q : List UInt8} (h : parseF s = .ok T q) (hs : s.length ≤ 200000) : T.bulk ≤ 1048576 := by
  have := doc_bulk (parseF_ok h)
  have := lines_len s
  omega
theorem parseF_tree {s : List UInt8} {T : PT} {q : List UInt8} (h : parseF s = .ok T q) : ∃ ks, T = .mk 1 [] [] [] ks := by
  obtain ⟨a, r, t, r2, b, _, _, _, hT, _⟩ := doc_parts (parseF_ok h)
  exact ⟨_, hT⟩
theorem mid_kind {a b : List PT} {t0 : PT} (ha : ∀ x ∈ a, x.k ≠ 2) (hb : ∀ x ∈ b, x.k ≠ 2) (ht : t0.k = 2) {i : Nat} {p : PT} (h : (a ++ [t0] ++ b)[i]? = some p) : p.k = 2 ↔ i = a.length := by
  rw [List.append_assoc] at h
  by_cases h1 : i < a.length
  · rw [List.getElem?_append_left h1] at h
    exact ⟨fun e => absurd e (ha p (List.mem_of_getElem? h)), fun e => by omega⟩
  · rw [List.getElem?_append_right (by omega)] at h
    by_cases h2 : i = a.length
    · subst h2
      rw [Nat.sub_self] at h
      simp at h
      subst h
      exact ⟨fun _ => rfl, fun _ => ht⟩
    · obtain ⟨k, hk⟩ : ∃ k, i - a.length = k + 1 := ⟨i - a.length - 1, by omega⟩
      rw [hk] at h
      simp at h
      exact ⟨fun e => absurd e (hb p (List.mem_of_getElem? h)), fun e => absurd e h2⟩
theorem mid_at (a b : List PT) (t0 : PT) : (a ++ [t0] ++ b)[a.length]? = some t0 := by
  rw [List.append_assoc, List.getElem?_append_right (Nat.le_refl _), Nat.sub_self]
  rfl
def atF (na i : Nat) : Int := if na < i then (na : Int) else -1
def nF (n1 i : Nat) : Int := if n1 < i then 1 else 0
theorem atF_zero (na : Nat) : atF na 0 = -1 := by unfold atF; rw [if_neg (by omega)]
theorem nF_zero (n1 : Nat) : nF n1 0 = 0 := by unfold nF; rw [if_neg (by omega)]
theorem atF_hit (na : Nat) : atF na (na + 1) = (na : Int) := by unfold atF; rw [if_pos (by omega)]
theorem atF_miss {na i : Nat} (h : i ≠ na) : atF na (i + 1) = atF na i := by
  unfold atF
  by_cases h1 : na < i
  · rw [if_pos h1, if_pos (by omega)]
  · rw [if_neg h1, if_neg (by omega)]
theorem nF_miss {na i : Nat} (h : i ≠ na) : nF na (i + 1) = nF na i := by
  unfold nF
  by_cases h1 : na < i
  · rw [if_pos h1, if_pos (by omega)]
  · rw [if_neg h1, if_neg (by omega)]
theorem atF_end {na m : Nat} (h : na < m) : atF na m = (na : Int) := by unfold atF; rw [if_pos h]
theorem nF_end {n1 m : Nat} (h : n1 < m) : nF n1 m = 1 := by unfold nF; rw [if_pos h]
theorem nF_hit (n1 : Nat) : nF n1 (n1 + 1) = 1 := by unfold nF; rw [if_pos (by omega)]
theorem nF_at (n1 : Nat) : nF n1 n1 = 0 := by unfold nF; rw [if_neg (by omega)]
theorem tr_some {L : List Tr} {ks : List PT} (h : plL L = ks) {i : Nat} {p : PT} (hp : ks[i]? = some p) : ∃ t, L[i]? = some t ∧ t.pl = p := by
  rw [plL_map] at h
  subst h
  rw [List.getElem?_map] at hp
  cases ht : L[i]? with
  | none => rw [ht] at hp; cases hp
  | some t =>
    rw [ht] at hp
    exact ⟨t, rfl, Option.some.inj hp⟩
end Go.Proofs.YtpdaldpaceolnaaGreatDoor
namespace Go.Proofs.YtpdaldpaceolnaaGreatDoor
open Go.RowKit Go.Lib
set_option maxRecDepth 100000
set_option maxHeartbeats 16000000
theorem lk {listed : Array Bool} {i j : Nat} {p : Prop} (F : listed.getD j false = true → p) (h : i ≠ j := by decide) : (listed.setIfInBounds i true).getD j false = true → p := fun q => F (ls h q)
theorem cell_call {w w' : World} {B o : Nat} {v : Value} (h : w.cell? ⟨B, o, none⟩ = some v) (hb : Below w.heap.size w w') : w'.cell? ⟨B, o, none⟩ = some v := ((bcell hb).1 B o (World.block_lt_of_cell? w _ h)).trans h
theorem froz_call {w w' : World} {B o : Nat} (h : w.frozen? ⟨B, o, none⟩ = false) (hz : B < w.heap.size) (hb : Below w.heap.size w w') : w'.frozen? ⟨B, o, none⟩ = false := ((bcell hb).2 B o hz).trans h
theorem cell_far {w : World} {B B' o o' : Nat} {v u : Value} (h : w.cell? ⟨B, o, none⟩ = some v) (hne : B ≠ B') : (w.setCell ⟨B', o', none⟩ u).cell? ⟨B, o, none⟩ = some v := by
  rw [World.cell?_setCell_other]
  · exact h
  · intro e; cases e; exact hne rfl
def Rg17I (w0 : World) (gt gu m j tkc ukc : Nat) (ad ad2 : Addr) (xk : Int) (xn xv : List UInt8) (xA xK : Option Addr) (xp xc xq xd : Nat) (yk : Int) (yn yv : List UInt8) (yA yK : Option Addr) (yp yc yq yd : Nat) (c0 c1 c2 c3 c4 c6 c7 c9 c11 c12 c13 c14 c15 c16 c17 c18 c19 c20 c21 c22 c23 c24 c25 c26 c27 c28 c29 c30 c31 c32 c33 c34 c35 c36 c37 c38 c39 c40 c41 c42 c43 c44 c45 c46 c47 c48 c49 c50 c51 c52 c53 c54 c55 c56 c57 c58 c59 c60 c61 c62 c63 c64 c65 c66 c67 c68 c69 c70 c71 c72 c73 c74 c75 c76 c77 c78 c79 c80 c81 c82 c83 c84 c85 c86 c87 c88 c89 c90 c91 c92 c93 c94 c95 c96 c97 c98 c99 c100 c101 c102 c103 c104 c105 c106 c107 c108 c109 c110 c111 c112 c113 c114 c115 c129 c130 c131 c132 c133 c134 c135 c136 c137 c138 c139 c140 c141 c142 c143 c144 c145 c146 c147 c148 c149 c150 c151 c152 c153 c154 c155 c156 c157 c158 c159 c160 c161 c162 c163 c164 c165 c166 c167 c168 c169 c170 c171 c172 c173 c174 c175 c176 c177 c178 c179 c180 c181 c182 c183 c184 c185 c186 c187 c188 c189 c190 c191 c192 c193 : Value) (listed : Array Bool) (A : Act) (w : World) : Prop := ∃ (s116 s117 s118 s119 s120 s121 s122 s123 s124 s125 s126 s127 s128 : Value), A = { tmps := #[c0, c1, c2, c3, c4, .pointer (some ⟨gt, 0, none⟩), c6, c7, .pointer (some ⟨gu, 0, none⟩), c9, .int .i64 (j : Nat), c11, c12, c13, c14, c15, c16, c17, c18, c19, c20, c21, c22, c23, c24, c25, c26, c27, c28, c29, c30, c31, c32, c33, c34, c35, c36, c37, c38, c39, c40, c41, c42, c43, c44, c45, c46, c47, c48, c49, c50, c51, c52, c53, c54, c55, c56, c57, c58, c59, c60, c61, c62, c63, c64, c65, c66, c67, c68, c69, c70, c71, c72, c73, c74, c75, c76, c77, c78, c79, c80, c81, c82, c83, c84, c85, c86, c87, c88, c89, c90, c91, c92, c93, c94, c95, c96, c97, c98, c99, c100, c101, c102, c103, c104, c105, c106, c107, c108, c109, c110, c111, c112, c113, c114, c115, s116, s117, s118, s119, s120, s121, s122, s123, s124, s125, s126, s127, s128, c129, c130, c131, c132, c133, c134, c135, c136, c137, c138, c139, c140, c141, c142, c143, c144, c145, c146, c147, c148, c149, c150, c151, c152, c153, c154, c155, c156, c157, c158, c159, c160, c161, c162, c163, c164, c165, c166, c167, c168, c169, c170, c171, c172, c173, c174, c175, c176, c177, c178, c179, c180, c181, c182, c183, c184, c185, c186, c187, c188, c189, c190, c191, c192, c193], defers := [] } ∧
  (listed.getD 0 false = true → s116 = .pointer (some ⟨gu, 4, none⟩)) ∧
  (listed.getD 1 false = true → s117 = .slice (some ad2) (m + 1) ukc) ∧
  (listed.getD 2 false = true → s118 = .int .i64 (j : Nat)) ∧
  (listed.getD 3 false = true → s119 = .int .i64 ((j : Int) + 1)) ∧
  (listed.getD 4 false = true → s120 = .pointer (some (ad2.add ((j + 1) * 5)))) ∧
  (listed.getD 5 false = true → s121 = .agg #[.int .i64 xk, .string (ba' xn), .string (ba' xv), .slice xA xp xc, .slice xK xq xd]) ∧
  (listed.getD 6 false = true → s122 = .pointer (some ⟨gt, 4, none⟩)) ∧
  (listed.getD 7 false = true → s123 = .slice (some ad) m tkc) ∧
  (listed.getD 8 false = true → s124 = .int .i64 (j : Nat)) ∧
  (listed.getD 9 false = true → s125 = .pointer (some (ad.add (j * 5)))) ∧
  (listed.getD 10 false = true → s126 = .agg #[.int .i64 yk, .string (ba' yn), .string (ba' yv), .slice yA yp yc, .slice yK yq yd]) ∧
  (listed.getD 11 false = true → s127 = .bool true) ∧
  (listed.getD 12 false = true → s128 = .bool false) ∧
  Below w0.heap.size w0 w ∧
  w.cell? ⟨gt, 4, none⟩ = some (.slice (some ad) m tkc) ∧
  w.cell? ⟨gu, 4, none⟩ = some (.slice (some ad2) (m + 1) ukc)
set_option maxRecDepth 100000 in
set_option maxHeartbeats 16000000 in
theorem Rg17_region (gt gu m j tkc ukc : Nat) (ad ad2 : Addr) (xk : Int) (xn xv : List UInt8) (xA xK : Option Addr) (xp xc xq xd : Nat) (yk : Int) (yn yv : List UInt8) (yA yK : Option Addr) (yp yc yq yd : Nat) {x116 x117 x118 x119 x120 x121 x122 x123 x124 x125 x126 x127 x128 : Value} {c0 c1 c2 c3 c4 c6 c7 c9 c11 c12 c13 c14 c15 c16 c17 c18 c19 c20 c21 c22 c23 c24 c25 c26 c27 c28 c29 c30 c31 c32 c33 c34 c35 c36 c37 c38 c39 c40 c41 c42 c43 c44 c45 c46 c47 c48 c49 c50 c51 c52 c53 c54 c55 c56 c57 c58 c59 c60 c61 c62 c63 c64 c65 c66 c67 c68 c69 c70 c71 c72 c73 c74 c75 c76 c77 c78 c79 c80 c81 c82 c83 c84 c85 c86 c87 c88 c89 c90 c91 c92 c93 c94 c95 c96 c97 c98 c99 c100 c101 c102 c103 c104 c105 c106 c107 c108 c109 c110 c111 c112 c113 c114 c115 c129 c130 c131 c132 c133 c134 c135 c136 c137 c138 c139 c140 c141 c142 c143 c144 c145 c146 c147 c148 c149 c150 c151 c152 c153 c154 c155 c156 c157 c158 c159 c160 c161 c162 c163 c164 c165 c166 c167 c168 c169 c170 c171 c172 c173 c174 c175 c176 c177 c178 c179 c180 c181 c182 c183 c184 c185 c186 c187 c188 c189 c190 c191 c192 c193 : Value} (w0 : World) {W : World} {Q : Exit → Act → World → Prop} (hb0 : Below w0.heap.size w0 W) (C0 : W.cell? ⟨gt, 4, none⟩ = some (.slice (some ad) m tkc)) (C1 : W.cell? ⟨gu, 4, none⟩ = some (.slice (some ad2) (m + 1) ukc))  (Y0 : Hid (∀ w1, Below w0.heap.size w0 w1 → w1.cell? (ad.add (j * 5)) = some (.int .i64 yk))) (Y1 : Hid (∀ w1, Below w0.heap.size w0 w1 → w1.cell? { block := (ad.add (j * 5)).block, off := (ad.add (j * 5)).off + 1 } = some (.string (ba' yn)))) (Y2 : Hid (∀ w1, Below w0.heap.size w0 w1 → w1.cell? { block := (ad.add (j * 5)).block, off := (ad.add (j * 5)).off + 2 } = some (.string (ba' yv)))) (Y3 : Hid (∀ w1, Below w0.heap.size w0 w1 → w1.cell? { block := (ad.add (j * 5)).block, off := (ad.add (j * 5)).off + 3 } = some (.slice yA yp yc))) (Y4 : Hid (∀ w1, Below w0.heap.size w0 w1 → w1.cell? { block := (ad.add (j * 5)).block, off := (ad.add (j * 5)).off + 4 } = some (.slice yK yq yd))) (Z0 : Hid (∀ w1, Below w0.heap.size w0 w1 → w1.cell? (ad2.add ((j + 1) * 5)) = some (.int .i64 xk))) (Z1 : Hid (∀ w1, Below w0.heap.size w0 w1 → w1.cell? { block := (ad2.add ((j + 1) * 5)).block, off := (ad2.add ((j + 1) * 5)).off + 1 } = some (.string (ba' xn)))) (Z2 : Hid (∀ w1, Below w0.heap.size w0 w1 → w1.cell? { block := (ad2.add ((j + 1) * 5)).block, off := (ad2.add ((j + 1) * 5)).off + 2 } = some (.string (ba' xv)))) (Z3 : Hid (∀ w1, Below w0.heap.size w0 w1 → w1.cell? { block := (ad2.add ((j + 1) * 5)).block, off := (ad2.add ((j + 1) * 5)).off + 3 } = some (.slice xA xp xc))) (Z4 : Hid (∀ w1, Below w0.heap.size w0 w1 → w1.cell? { block := (ad2.add ((j + 1) * 5)).block, off := (ad2.add ((j + 1) * 5)).off + 4 } = some (.slice xK xq xd))) (hj : j < m) (_hj' : decide (j < m) = true) (vj : IntKind.wrap .i64 ((j : Int) + 1) = (j : Int) + 1) (hj2 : (0 : Int) ≤ (j : Int) + 1) (H1 : Hid (∀ w1, Below w0.heap.size w0 w1 → Calls Tryz.prog 11 #[.agg #[.int .i64 xk, .string (ba' xn), .string (ba' xv), .slice xA xp xc, .slice xK xq xd], .agg #[.int .i64 yk, .string (ba' yn), .string (ba' yv), .slice yA yp yc, .slice yK yq yd]] w1 fun e w' => e = .returned (.bool true) ∧ Below w1.heap.size w1 w'))
    (hQ : ∀ (w : World) , (True) → Below w0.heap.size w0 w → Q .normal { tmps := #[c0, c1, c2, c3, c4, .pointer (some ⟨gt, 0, none⟩), c6, c7, .pointer (some ⟨gu, 0, none⟩), c9, .int .i64 (j : Nat), c11, c12, c13, c14, c15, c16, c17, c18, c19, c20, c21, c22, c23, c24, c25, c26, c27, c28, c29, c30, c31, c32, c33, c34, c35, c36, c37, c38, c39, c40, c41, c42, c43, c44, c45, c46, c47, c48, c49, c50, c51, c52, c53, c54, c55, c56, c57, c58, c59, c60, c61, c62, c63, c64, c65, c66, c67, c68, c69, c70, c71, c72, c73, c74, c75, c76, c77, c78, c79, c80, c81, c82, c83, c84, c85, c86, c87, c88, c89, c90, c91, c92, c93, c94, c95, c96, c97, c98, c99, c100, c101, c102, c103, c104, c105, c106, c107, c108, c109, c110, c111, c112, c113, c114, c115, .pointer (some ⟨gu, 4, none⟩), .slice (some ad2) (m + 1) ukc, .int .i64 (j : Nat), .int .i64 ((j : Int) + 1), .pointer (some (ad2.add ((j + 1) * 5))), .agg #[.int .i64 xk, .string (ba' xn), .string (ba' xv), .slice xA xp xc, .slice xK xq xd], .pointer (some ⟨gt, 4, none⟩), .slice (some ad) m tkc, .int .i64 (j : Nat), .pointer (some (ad.add (j * 5))), .agg #[.int .i64 yk, .string (ba' yn), .string (ba' yv), .slice yA yp yc, .slice yK yq yd], .bool true, .bool false, c129, c130, c131, c132, c133, c134, c135, c136, c137, c138, c139, c140, c141, c142, c143, c144, c145, c146, c147, c148, c149, c150, c151, c152, c153, c154, c155, c156, c157, c158, c159, c160, c161, c162, c163, c164, c165, c166, c167, c168, c169, c170, c171, c172, c173, c174, c175, c176, c177, c178, c179, c180, c181, c182, c183, c184, c185, c186, c187, c188, c189, c190, c191, c192, c193], defers := [] } w) :
    Code.wp Tryz.prog ((Tryz.f4.body.bind (regionOf 17)).getD .skip) Q { tmps := #[c0, c1, c2, c3, c4, .pointer (some ⟨gt, 0, none⟩), c6, c7, .pointer (some ⟨gu, 0, none⟩), c9, .int .i64 (j : Nat), c11, c12, c13, c14, c15, c16, c17, c18, c19, c20, c21, c22, c23, c24, c25, c26, c27, c28, c29, c30, c31, c32, c33, c34, c35, c36, c37, c38, c39, c40, c41, c42, c43, c44, c45, c46, c47, c48, c49, c50, c51, c52, c53, c54, c55, c56, c57, c58, c59, c60, c61, c62, c63, c64, c65, c66, c67, c68, c69, c70, c71, c72, c73, c74, c75, c76, c77, c78, c79, c80, c81, c82, c83, c84, c85, c86, c87, c88, c89, c90, c91, c92, c93, c94, c95, c96, c97, c98, c99, c100, c101, c102, c103, c104, c105, c106, c107, c108, c109, c110, c111, c112, c113, c114, c115, x116, x117, x118, x119, x120, x121, x122, x123, x124, x125, x126, x127, x128, c129, c130, c131, c132, c133, c134, c135, c136, c137, c138, c139, c140, c141, c142, c143, c144, c145, c146, c147, c148, c149, c150, c151, c152, c153, c154, c155, c156, c157, c158, c159, c160, c161, c162, c163, c164, c165, c166, c167, c168, c169, c170, c171, c172, c173, c174, c175, c176, c177, c178, c179, c180, c181, c182, c183, c184, c185, c186, c187, c188, c189, c190, c191, c192, c193], defers := [] } W := by
  conv => arg 2; whnf
  refine wp_region_inv (by kernel_rfl) (by kernel_rfl) (Rg17I w0 gt gu m j tkc ukc ad ad2 xk xn xv xA xK xp xc xq xd yk yn yv yA yK yp yc yq yd c0 c1 c2 c3 c4 c6 c7 c9 c11 c12 c13 c14 c15 c16 c17 c18 c19 c20 c21 c22 c23 c24 c25 c26 c27 c28 c29 c30 c31 c32 c33 c34 c35 c36 c37 c38 c39 c40 c41 c42 c43 c44 c45 c46 c47 c48 c49 c50 c51 c52 c53 c54 c55 c56 c57 c58 c59 c60 c61 c62 c63 c64 c65 c66 c67 c68 c69 c70 c71 c72 c73 c74 c75 c76 c77 c78 c79 c80 c81 c82 c83 c84 c85 c86 c87 c88 c89 c90 c91 c92 c93 c94 c95 c96 c97 c98 c99 c100 c101 c102 c103 c104 c105 c106 c107 c108 c109 c110 c111 c112 c113 c114 c115 c129 c130 c131 c132 c133 c134 c135 c136 c137 c138 c139 c140 c141 c142 c143 c144 c145 c146 c147 c148 c149 c150 c151 c152 c153 c154 c155 c156 c157 c158 c159 c160 c161 c162 c163 c164 c165 c166 c167 c168 c169 c170 c171 c172 c173 c174 c175 c176 c177 c178 c179 c180 c181 c182 c183 c184 c185 c186 c187 c188 c189 c190 c191 c192 c193) ?_ ?_ ?_
  · exact ⟨_, _, _, _, _, _, _, _, _, _, _, _, _, rfl, fun h => absurd h l0, fun h => absurd h l0, fun h => absurd h l0, fun h => absurd h l0, fun h => absurd h l0, fun h => absurd h l0, fun h => absurd h l0, fun h => absurd h l0, fun h => absurd h l0, fun h => absurd h l0, fun h => absurd h l0, fun h => absurd h l0, fun h => absurd h l0, bdr hb0, C0, C1⟩
  · intro i o listed A w hi ho hd hn hI
    unfold Rg17I at hI
    obtain ⟨s116, hI⟩ := hI
    obtain ⟨s117, hI⟩ := hI
    obtain ⟨s118, hI⟩ := hI
    obtain ⟨s119, hI⟩ := hI
    obtain ⟨s120, hI⟩ := hI
    obtain ⟨s121, hI⟩ := hI
    obtain ⟨s122, hI⟩ := hI
    obtain ⟨s123, hI⟩ := hI
    obtain ⟨s124, hI⟩ := hI
    obtain ⟨s125, hI⟩ := hI
    obtain ⟨s126, hI⟩ := hI
    obtain ⟨s127, hI⟩ := hI
    obtain ⟨s128, hI⟩ := hI
    obtain ⟨rfl, hI⟩ := hI
    obtain ⟨F0, hI⟩ := hI
    obtain ⟨F1, hI⟩ := hI
    obtain ⟨F2, hI⟩ := hI
    obtain ⟨F3, hI⟩ := hI
    obtain ⟨F4, hI⟩ := hI
    obtain ⟨F5, hI⟩ := hI
    obtain ⟨F6, hI⟩ := hI
    obtain ⟨F7, hI⟩ := hI
    obtain ⟨F8, hI⟩ := hI
    obtain ⟨F9, hI⟩ := hI
    obtain ⟨F10, hI⟩ := hI
    obtain ⟨F11, hI⟩ := hI
    obtain ⟨F12, hI⟩ := hI
    obtain ⟨F13, hI⟩ := hI
    obtain ⟨F14, hI⟩ := hI
    have F15 := hI; clear hI
    have hi' : i < 13 := hi
    clear hi
    rcases (by omega : i = 0 ∨ i = 1 ∨ i = 2 ∨ i = 3 ∨ i = 4 ∨ i = 5 ∨ i = 6 ∨ i = 7 ∨ i = 8 ∨ i = 9 ∨ i = 10 ∨ i = 11 ∨ i = 12) with rfl | rfl | rfl | rfl | rfl | rfl | rfl | rfl | rfl | rfl | rfl | rfl | rfl
    · simp only [List.getElem?_toArray, List.getElem?_cons_zero, Option.some.injEq] at ho
      subst ho
      refine wpOp_step rfl (fun K hK => ?_)
      go_simp
      refine hK _ _ ?_
      exact ⟨_, _, _, _, _, _, _, _, _, _, _, _, _, rfl, fun _ => rfl, lk F1, lk F2, lk F3, lk F4, lk F5, lk F6, lk F7, lk F8, lk F9, lk F10, lk F11, lk F12, F13, F14, F15⟩
    · simp only [List.getElem?_toArray, List.getElem?_cons_zero, List.getElem?_cons_succ, Option.some.injEq] at ho
      subst ho
      obtain rfl := F0 (hd ⟨0, .data⟩ (by simp) rfl)
      have h0 := F15
      refine wpOp_step rfl (fun K hK => ?_)
      go_simp
      refine hK _ _ ?_
      exact ⟨_, _, _, _, _, _, _, _, _, _, _, _, _, rfl, lk F0, fun _ => rfl, lk F2, lk F3, lk F4, lk F5, lk F6, lk F7, lk F8, lk F9, lk F10, lk F11, lk F12, F13, F14, F15⟩
    · simp only [List.getElem?_toArray, List.getElem?_cons_zero, List.getElem?_cons_succ, Option.some.injEq] at ho
      subst ho
      refine wpOp_step rfl (fun K hK => ?_)
      go_simp
      refine hK _ _ ?_
      exact ⟨_, _, _, _, _, _, _, _, _, _, _, _, _, rfl, lk F0, lk F1, fun _ => rfl, lk F3, lk F4, lk F5, lk F6, lk F7, lk F8, lk F9, lk F10, lk F11, lk F12, F13, F14, F15⟩
    · simp only [List.getElem?_toArray, List.getElem?_cons_zero, List.getElem?_cons_succ, Option.some.injEq] at ho
      subst ho
      obtain rfl := F2 (hd ⟨2, .data⟩ (by simp) rfl)
      refine wpOp_step rfl (fun K hK => ?_)
      go_simp
      refine hK _ _ ?_
      exact ⟨_, _, _, _, _, _, _, _, _, _, _, _, _, rfl, lk F0, lk F1, lk F2, fun _ => rfl, lk F4, lk F5, lk F6, lk F7, lk F8, lk F9, lk F10, lk F11, lk F12, F13, F14, F15⟩
    · simp only [List.getElem?_toArray, List.getElem?_cons_zero, List.getElem?_cons_succ, Option.some.injEq] at ho
      subst ho
      obtain rfl := F1 (hd ⟨1, .data⟩ (by simp) rfl)
      obtain rfl := F3 (hd ⟨3, .data⟩ (by simp) rfl)
      refine wpOp_step rfl (fun K hK => ?_)
      go_simp
      refine hK _ _ ?_
      exact ⟨_, _, _, _, _, _, _, _, _, _, _, _, _, rfl, lk F0, lk F1, lk F2, lk F3, fun _ => rfl, lk F5, lk F6, lk F7, lk F8, lk F9, lk F10, lk F11, lk F12, F13, F14, F15⟩
    · simp only [List.getElem?_toArray, List.getElem?_cons_zero, List.getElem?_cons_succ, Option.some.injEq] at ho
      subst ho
      obtain rfl := F4 (hd ⟨4, .data⟩ (by simp) rfl)
      have h0 := Z0.out _ F13; have h1 := Z1.out _ F13; have h2 := Z2.out _ F13; have h3 := Z3.out _ F13; have h4 := Z4.out _ F13
      refine wpOp_step rfl (fun K hK => ?_)
      go_simp
      refine hK _ _ ?_
      exact ⟨_, _, _, _, _, _, _, _, _, _, _, _, _, rfl, lk F0, lk F1, lk F2, lk F3, lk F4, fun _ => rfl, lk F6, lk F7, lk F8, lk F9, lk F10, lk F11, lk F12, F13, F14, F15⟩
    · simp only [List.getElem?_toArray, List.getElem?_cons_zero, List.getElem?_cons_succ, Option.some.injEq] at ho
      subst ho
      refine wpOp_step rfl (fun K hK => ?_)
      go_simp
      refine hK _ _ ?_
      exact ⟨_, _, _, _, _, _, _, _, _, _, _, _, _, rfl, lk F0, lk F1, lk F2, lk F3, lk F4, lk F5, fun _ => rfl, lk F7, lk F8, lk F9, lk F10, lk F11, lk F12, F13, F14, F15⟩
    · simp only [List.getElem?_toArray, List.getElem?_cons_zero, List.getElem?_cons_succ, Option.some.injEq] at ho
      subst ho
      obtain rfl := F6 (hd ⟨6, .data⟩ (by simp) rfl)
      have h0 := F14
      refine wpOp_step rfl (fun K hK => ?_)
      go_simp
      refine hK _ _ ?_
      exact ⟨_, _, _, _, _, _, _, _, _, _, _, _, _, rfl, lk F0, lk F1, lk F2, lk F3, lk F4, lk F5, lk F6, fun _ => rfl, lk F8, lk F9, lk F10, lk F11, lk F12, F13, F14, F15⟩
    · simp only [List.getElem?_toArray, List.getElem?_cons_zero, List.getElem?_cons_succ, Option.some.injEq] at ho
      subst ho
      refine wpOp_step rfl (fun K hK => ?_)
      go_simp
      refine hK _ _ ?_
      exact ⟨_, _, _, _, _, _, _, _, _, _, _, _, _, rfl, lk F0, lk F1, lk F2, lk F3, lk F4, lk F5, lk F6, lk F7, fun _ => rfl, lk F9, lk F10, lk F11, lk F12, F13, F14, F15⟩
    · simp only [List.getElem?_toArray, List.getElem?_cons_zero, List.getElem?_cons_succ, Option.some.injEq] at ho
      subst ho
      obtain rfl := F7 (hd ⟨7, .data⟩ (by simp) rfl)
      obtain rfl := F8 (hd ⟨8, .data⟩ (by simp) rfl)
      refine wpOp_step rfl (fun K hK => ?_)
      go_simp
      refine hK _ _ ?_
      exact ⟨_, _, _, _, _, _, _, _, _, _, _, _, _, rfl, lk F0, lk F1, lk F2, lk F3, lk F4, lk F5, lk F6, lk F7, lk F8, fun _ => rfl, lk F10, lk F11, lk F12, F13, F14, F15⟩
    · simp only [List.getElem?_toArray, List.getElem?_cons_zero, List.getElem?_cons_succ, Option.some.injEq] at ho
      subst ho
      obtain rfl := F9 (hd ⟨9, .data⟩ (by simp) rfl)
      have h0 := Y0.out _ F13; have h1 := Y1.out _ F13; have h2 := Y2.out _ F13; have h3 := Y3.out _ F13; have h4 := Y4.out _ F13
      refine wpOp_step rfl (fun K hK => ?_)
      go_simp
      refine hK _ _ ?_
      exact ⟨_, _, _, _, _, _, _, _, _, _, _, _, _, rfl, lk F0, lk F1, lk F2, lk F3, lk F4, lk F5, lk F6, lk F7, lk F8, lk F9, fun _ => rfl, lk F11, lk F12, F13, F14, F15⟩
    · simp only [List.getElem?_toArray, List.getElem?_cons_zero, List.getElem?_cons_succ, Option.some.injEq] at ho
      subst ho
      obtain rfl := F5 (hd ⟨5, .data⟩ (by simp) rfl)
      obtain rfl := F10 (hd ⟨10, .data⟩ (by simp) rfl)
      refine wpOp_step rfl (fun K hK => ?_)
      go_simp
      go_at_call 11
      refine (H1.out _ F13).mono ?_
      rintro e w' ⟨rfl, hb⟩
      refine hK _ _ ?_
      exact ⟨_, _, _, _, _, _, _, _, _, _, _, _, _, rfl, lk F0, lk F1, lk F2, lk F3, lk F4, lk F5, lk F6, lk F7, lk F8, lk F9, lk F10, fun _ => rfl, lk F12, bt F13 hb, cell_call F14 hb, cell_call F15 hb⟩
    · simp only [List.getElem?_toArray, List.getElem?_cons_zero, List.getElem?_cons_succ, Option.some.injEq] at ho
      subst ho
      obtain rfl := F11 (hd ⟨11, .data⟩ (by simp) rfl)
      refine wpOp_step rfl (fun K hK => ?_)
      go_simp
      refine hK _ _ ?_
      exact ⟨_, _, _, _, _, _, _, _, _, _, _, _, _, rfl, lk F0, lk F1, lk F2, lk F3, lk F4, lk F5, lk F6, lk F7, lk F8, lk F9, lk F10, lk F11, fun _ => rfl, F13, F14, F15⟩
  · intro listed A w hall hI
    unfold Rg17I at hI
    obtain ⟨s116, hI⟩ := hI
    obtain ⟨s117, hI⟩ := hI
    obtain ⟨s118, hI⟩ := hI
    obtain ⟨s119, hI⟩ := hI
    obtain ⟨s120, hI⟩ := hI
    obtain ⟨s121, hI⟩ := hI
    obtain ⟨s122, hI⟩ := hI
    obtain ⟨s123, hI⟩ := hI
    obtain ⟨s124, hI⟩ := hI
    obtain ⟨s125, hI⟩ := hI
    obtain ⟨s126, hI⟩ := hI
    obtain ⟨s127, hI⟩ := hI
    obtain ⟨s128, hI⟩ := hI
    obtain ⟨rfl, hI⟩ := hI
    obtain ⟨F0, hI⟩ := hI
    obtain ⟨F1, hI⟩ := hI
    obtain ⟨F2, hI⟩ := hI
    obtain ⟨F3, hI⟩ := hI
    obtain ⟨F4, hI⟩ := hI
    obtain ⟨F5, hI⟩ := hI
    obtain ⟨F6, hI⟩ := hI
    obtain ⟨F7, hI⟩ := hI
    obtain ⟨F8, hI⟩ := hI
    obtain ⟨F9, hI⟩ := hI
    obtain ⟨F10, hI⟩ := hI
    obtain ⟨F11, hI⟩ := hI
    obtain ⟨F12, hI⟩ := hI
    obtain ⟨F13, hI⟩ := hI
    obtain ⟨F14, hI⟩ := hI
    have F15 := hI; clear hI
    obtain rfl := F0 (hall 0 (by decide))
    obtain rfl := F1 (hall 1 (by decide))
    obtain rfl := F2 (hall 2 (by decide))
    obtain rfl := F3 (hall 3 (by decide))
    obtain rfl := F4 (hall 4 (by decide))
    obtain rfl := F5 (hall 5 (by decide))
    obtain rfl := F6 (hall 6 (by decide))
    obtain rfl := F7 (hall 7 (by decide))
    obtain rfl := F8 (hall 8 (by decide))
    obtain rfl := F9 (hall 9 (by decide))
    obtain rfl := F10 (hall 10 (by decide))
    obtain rfl := F11 (hall 11 (by decide))
    obtain rfl := F12 (hall 12 (by decide))
    have HB := F13
    have Q0 := F14
    have Q1 := F15
    exact hQ _ trivial HB
def Rg34I (w0 : World) (gt gw m i na M tkc wkc wqc : Nat) (ad adw adk : Addr) (xk : Int) (xn xv : List UInt8) (xA xK : Option Addr) (xp xc xq xd : Nat) (yk : Int) (yn yv : List UInt8) (yA yK : Option Addr) (yp yc yq yd : Nat) (c0 c1 c2 c3 c4 c6 c7 c8 c9 c10 c12 c14 c15 c17 c18 c19 c20 c21 c22 c23 c24 c25 c26 c27 c28 c29 c30 c31 c32 c33 c34 c35 c36 c37 c38 c39 c40 c41 c42 c43 c44 c45 c46 c47 c48 c49 c50 c51 c52 c53 c54 c55 c56 c57 c58 c59 c60 c61 c62 c63 c64 c65 c66 c67 c68 c69 c70 c71 c72 c73 c74 c75 c76 c77 c78 c79 c80 c81 c82 c83 c84 c85 c86 c87 c88 c89 c90 c91 c92 c93 c94 c95 c96 c97 c98 c99 c100 c101 c102 c103 c104 c105 c106 c107 c108 c109 c110 c111 c112 c113 c114 c115 c116 c117 c118 c119 c120 c121 c122 c123 c124 c125 c126 c127 c128 c129 c130 c131 c132 c133 c134 c135 c136 c137 c138 c139 c140 c141 c142 c143 c144 c145 c146 c147 c148 c149 c150 c151 c152 c153 c154 c155 c156 c157 c158 c159 c160 c161 c162 c163 c164 c165 c166 c167 c168 c169 c170 c171 c172 c173 c174 c175 c176 c192 c193 : Value) (listed : Array Bool) (A : Act) (w : World) : Prop := ∃ (s177 s178 s179 s180 s181 s182 s183 s184 s185 s186 s187 s188 s189 s190 s191 : Value), A = { tmps := #[c0, c1, c2, c3, c4, .pointer (some ⟨gt, 0, none⟩), c6, c7, c8, c9, c10, .pointer (some ⟨gw, 0, none⟩), c12, .int .i64 (na : Nat), c14, c15, .int .i64 (i : Nat), c17, c18, c19, c20, c21, c22, c23, c24, c25, c26, c27, c28, c29, c30, c31, c32, c33, c34, c35, c36, c37, c38, c39, c40, c41, c42, c43, c44, c45, c46, c47, c48, c49, c50, c51, c52, c53, c54, c55, c56, c57, c58, c59, c60, c61, c62, c63, c64, c65, c66, c67, c68, c69, c70, c71, c72, c73, c74, c75, c76, c77, c78, c79, c80, c81, c82, c83, c84, c85, c86, c87, c88, c89, c90, c91, c92, c93, c94, c95, c96, c97, c98, c99, c100, c101, c102, c103, c104, c105, c106, c107, c108, c109, c110, c111, c112, c113, c114, c115, c116, c117, c118, c119, c120, c121, c122, c123, c124, c125, c126, c127, c128, c129, c130, c131, c132, c133, c134, c135, c136, c137, c138, c139, c140, c141, c142, c143, c144, c145, c146, c147, c148, c149, c150, c151, c152, c153, c154, c155, c156, c157, c158, c159, c160, c161, c162, c163, c164, c165, c166, c167, c168, c169, c170, c171, c172, c173, c174, c175, c176, s177, s178, s179, s180, s181, s182, s183, s184, s185, s186, s187, s188, s189, s190, s191, c192, c193], defers := [] } ∧
  (listed.getD 0 false = true → s177 = .pointer (some ⟨gw, 4, none⟩)) ∧
  (listed.getD 1 false = true → s178 = .slice (some adw) 1 wkc) ∧
  (listed.getD 2 false = true → s179 = .pointer (some adw)) ∧
  (listed.getD 3 false = true → s180 = .pointer (some { block := adw.block, off := adw.off + 4 })) ∧
  (listed.getD 4 false = true → s181 = .slice (some adk) M wqc) ∧
  (listed.getD 5 false = true → s182 = .int .i64 (i : Nat)) ∧
  (listed.getD 6 false = true → s183 = .pointer (some (adk.add (i * 5)))) ∧
  (listed.getD 7 false = true → s184 = .agg #[.int .i64 xk, .string (ba' xn), .string (ba' xv), .slice xA xp xc, .slice xK xq xd]) ∧
  (listed.getD 8 false = true → s185 = .pointer (some ⟨gt, 4, none⟩)) ∧
  (listed.getD 9 false = true → s186 = .slice (some ad) m tkc) ∧
  (listed.getD 10 false = true → s187 = .int .i64 (na : Nat)) ∧
  (listed.getD 11 false = true → s188 = .pointer (some (ad.add (na * 5)))) ∧
  (listed.getD 12 false = true → s189 = .agg #[.int .i64 yk, .string (ba' yn), .string (ba' yv), .slice yA yp yc, .slice yK yq yd]) ∧
  (listed.getD 13 false = true → s190 = .bool true) ∧
  (listed.getD 14 false = true → s191 = .bool false) ∧
  Below w0.heap.size w0 w ∧
  w.cell? ⟨gt, 4, none⟩ = some (.slice (some ad) m tkc) ∧
  w.cell? ⟨gw, 4, none⟩ = some (.slice (some adw) 1 wkc)
set_option maxRecDepth 100000 in
set_option maxHeartbeats 16000000 in
theorem Rg34_region (gt gw m i na M tkc wkc wqc : Nat) (ad adw adk : Addr) (xk : Int) (xn xv : List UInt8) (xA xK : Option Addr) (xp xc xq xd : Nat) (yk : Int) (yn yv : List UInt8) (yA yK : Option Addr) (yp yc yq yd : Nat) {x177 x178 x179 x180 x181 x182 x183 x184 x185 x186 x187 x188 x189 x190 x191 : Value} {c0 c1 c2 c3 c4 c6 c7 c8 c9 c10 c12 c14 c15 c17 c18 c19 c20 c21 c22 c23 c24 c25 c26 c27 c28 c29 c30 c31 c32 c33 c34 c35 c36 c37 c38 c39 c40 c41 c42 c43 c44 c45 c46 c47 c48 c49 c50 c51 c52 c53 c54 c55 c56 c57 c58 c59 c60 c61 c62 c63 c64 c65 c66 c67 c68 c69 c70 c71 c72 c73 c74 c75 c76 c77 c78 c79 c80 c81 c82 c83 c84 c85 c86 c87 c88 c89 c90 c91 c92 c93 c94 c95 c96 c97 c98 c99 c100 c101 c102 c103 c104 c105 c106 c107 c108 c109 c110 c111 c112 c113 c114 c115 c116 c117 c118 c119 c120 c121 c122 c123 c124 c125 c126 c127 c128 c129 c130 c131 c132 c133 c134 c135 c136 c137 c138 c139 c140 c141 c142 c143 c144 c145 c146 c147 c148 c149 c150 c151 c152 c153 c154 c155 c156 c157 c158 c159 c160 c161 c162 c163 c164 c165 c166 c167 c168 c169 c170 c171 c172 c173 c174 c175 c176 c192 c193 : Value} (w0 : World) {W : World} {Q : Exit → Act → World → Prop} (hb0 : Below w0.heap.size w0 W) (C0 : W.cell? ⟨gt, 4, none⟩ = some (.slice (some ad) m tkc)) (C1 : W.cell? ⟨gw, 4, none⟩ = some (.slice (some adw) 1 wkc))  (V0 : Hid (∀ w1, Below w0.heap.size w0 w1 → w1.cell? { block := adw.block, off := adw.off + 4 } = some (.slice (some adk) M wqc))) (Y0 : Hid (∀ w1, Below w0.heap.size w0 w1 → w1.cell? (adk.add (i * 5)) = some (.int .i64 xk))) (Y1 : Hid (∀ w1, Below w0.heap.size w0 w1 → w1.cell? { block := (adk.add (i * 5)).block, off := (adk.add (i * 5)).off + 1 } = some (.string (ba' xn)))) (Y2 : Hid (∀ w1, Below w0.heap.size w0 w1 → w1.cell? { block := (adk.add (i * 5)).block, off := (adk.add (i * 5)).off + 2 } = some (.string (ba' xv)))) (Y3 : Hid (∀ w1, Below w0.heap.size w0 w1 → w1.cell? { block := (adk.add (i * 5)).block, off := (adk.add (i * 5)).off + 3 } = some (.slice xA xp xc))) (Y4 : Hid (∀ w1, Below w0.heap.size w0 w1 → w1.cell? { block := (adk.add (i * 5)).block, off := (adk.add (i * 5)).off + 4 } = some (.slice xK xq xd))) (Z0 : Hid (∀ w1, Below w0.heap.size w0 w1 → w1.cell? (ad.add (na * 5)) = some (.int .i64 yk))) (Z1 : Hid (∀ w1, Below w0.heap.size w0 w1 → w1.cell? { block := (ad.add (na * 5)).block, off := (ad.add (na * 5)).off + 1 } = some (.string (ba' yn)))) (Z2 : Hid (∀ w1, Below w0.heap.size w0 w1 → w1.cell? { block := (ad.add (na * 5)).block, off := (ad.add (na * 5)).off + 2 } = some (.string (ba' yv)))) (Z3 : Hid (∀ w1, Below w0.heap.size w0 w1 → w1.cell? { block := (ad.add (na * 5)).block, off := (ad.add (na * 5)).off + 3 } = some (.slice yA yp yc))) (Z4 : Hid (∀ w1, Below w0.heap.size w0 w1 → w1.cell? { block := (ad.add (na * 5)).block, off := (ad.add (na * 5)).off + 4 } = some (.slice yK yq yd))) (hj : i < M) (_hj' : decide (i < M) = true) (hn : na < m) (_hn' : decide (na < m) = true) (H1 : Hid (∀ w1, Below w0.heap.size w0 w1 → Calls Tryz.prog 11 #[.agg #[.int .i64 xk, .string (ba' xn), .string (ba' xv), .slice xA xp xc, .slice xK xq xd], .agg #[.int .i64 yk, .string (ba' yn), .string (ba' yv), .slice yA yp yc, .slice yK yq yd]] w1 fun e w' => e = .returned (.bool true) ∧ Below w1.heap.size w1 w'))
    (hQ : ∀ (w : World) , (True) → Below w0.heap.size w0 w → Q .normal { tmps := #[c0, c1, c2, c3, c4, .pointer (some ⟨gt, 0, none⟩), c6, c7, c8, c9, c10, .pointer (some ⟨gw, 0, none⟩), c12, .int .i64 (na : Nat), c14, c15, .int .i64 (i : Nat), c17, c18, c19, c20, c21, c22, c23, c24, c25, c26, c27, c28, c29, c30, c31, c32, c33, c34, c35, c36, c37, c38, c39, c40, c41, c42, c43, c44, c45, c46, c47, c48, c49, c50, c51, c52, c53, c54, c55, c56, c57, c58, c59, c60, c61, c62, c63, c64, c65, c66, c67, c68, c69, c70, c71, c72, c73, c74, c75, c76, c77, c78, c79, c80, c81, c82, c83, c84, c85, c86, c87, c88, c89, c90, c91, c92, c93, c94, c95, c96, c97, c98, c99, c100, c101, c102, c103, c104, c105, c106, c107, c108, c109, c110, c111, c112, c113, c114, c115, c116, c117, c118, c119, c120, c121, c122, c123, c124, c125, c126, c127, c128, c129, c130, c131, c132, c133, c134, c135, c136, c137, c138, c139, c140, c141, c142, c143, c144, c145, c146, c147, c148, c149, c150, c151, c152, c153, c154, c155, c156, c157, c158, c159, c160, c161, c162, c163, c164, c165, c166, c167, c168, c169, c170, c171, c172, c173, c174, c175, c176, .pointer (some ⟨gw, 4, none⟩), .slice (some adw) 1 wkc, .pointer (some adw), .pointer (some { block := adw.block, off := adw.off + 4 }), .slice (some adk) M wqc, .int .i64 (i : Nat), .pointer (some (adk.add (i * 5))), .agg #[.int .i64 xk, .string (ba' xn), .string (ba' xv), .slice xA xp xc, .slice xK xq xd], .pointer (some ⟨gt, 4, none⟩), .slice (some ad) m tkc, .int .i64 (na : Nat), .pointer (some (ad.add (na * 5))), .agg #[.int .i64 yk, .string (ba' yn), .string (ba' yv), .slice yA yp yc, .slice yK yq yd], .bool true, .bool false, c192, c193], defers := [] } w) :
    Code.wp Tryz.prog ((Tryz.f4.body.bind (regionOf 34)).getD .skip) Q { tmps := #[c0, c1, c2, c3, c4, .pointer (some ⟨gt, 0, none⟩), c6, c7, c8, c9, c10, .pointer (some ⟨gw, 0, none⟩), c12, .int .i64 (na : Nat), c14, c15, .int .i64 (i : Nat), c17, c18, c19, c20, c21, c22, c23, c24, c25, c26, c27, c28, c29, c30, c31, c32, c33, c34, c35, c36, c37, c38, c39, c40, c41, c42, c43, c44, c45, c46, c47, c48, c49, c50, c51, c52, c53, c54, c55, c56, c57, c58, c59, c60, c61, c62, c63, c64, c65, c66, c67, c68, c69, c70, c71, c72, c73, c74, c75, c76, c77, c78, c79, c80, c81, c82, c83, c84, c85, c86, c87, c88, c89, c90, c91, c92, c93, c94, c95, c96, c97, c98, c99, c100, c101, c102, c103, c104, c105, c106, c107, c108, c109, c110, c111, c112, c113, c114, c115, c116, c117, c118, c119, c120, c121, c122, c123, c124, c125, c126, c127, c128, c129, c130, c131, c132, c133, c134, c135, c136, c137, c138, c139, c140, c141, c142, c143, c144, c145, c146, c147, c148, c149, c150, c151, c152, c153, c154, c155, c156, c157, c158, c159, c160, c161, c162, c163, c164, c165, c166, c167, c168, c169, c170, c171, c172, c173, c174, c175, c176, x177, x178, x179, x180, x181, x182, x183, x184, x185, x186, x187, x188, x189, x190, x191, c192, c193], defers := [] } W := by
  conv => arg 2; whnf
  refine wp_region_inv (by kernel_rfl) (by kernel_rfl) (Rg34I w0 gt gw m i na M tkc wkc wqc ad adw adk xk xn xv xA xK xp xc xq xd yk yn yv yA yK yp yc yq yd c0 c1 c2 c3 c4 c6 c7 c8 c9 c10 c12 c14 c15 c17 c18 c19 c20 c21 c22 c23 c24 c25 c26 c27 c28 c29 c30 c31 c32 c33 c34 c35 c36 c37 c38 c39 c40 c41 c42 c43 c44 c45 c46 c47 c48 c49 c50 c51 c52 c53 c54 c55 c56 c57 c58 c59 c60 c61 c62 c63 c64 c65 c66 c67 c68 c69 c70 c71 c72 c73 c74 c75 c76 c77 c78 c79 c80 c81 c82 c83 c84 c85 c86 c87 c88 c89 c90 c91 c92 c93 c94 c95 c96 c97 c98 c99 c100 c101 c102 c103 c104 c105 c106 c107 c108 c109 c110 c111 c112 c113 c114 c115 c116 c117 c118 c119 c120 c121 c122 c123 c124 c125 c126 c127 c128 c129 c130 c131 c132 c133 c134 c135 c136 c137 c138 c139 c140 c141 c142 c143 c144 c145 c146 c147 c148 c149 c150 c151 c152 c153 c154 c155 c156 c157 c158 c159 c160 c161 c162 c163 c164 c165 c166 c167 c168 c169 c170 c171 c172 c173 c174 c175 c176 c192 c193) ?_ ?_ ?_
  · exact ⟨_, _, _, _, _, _, _, _, _, _, _, _, _, _, _, rfl, fun h => absurd h l0, fun h => absurd h l0, fun h => absurd h l0, fun h => absurd h l0, fun h => absurd h l0, fun h => absurd h l0, fun h => absurd h l0, fun h => absurd h l0, fun h => absurd h l0, fun h => absurd h l0, fun h => absurd h l0, fun h => absurd h l0, fun h => absurd h l0, fun h => absurd h l0, fun h => absurd h l0, bdr hb0, C0, C1⟩
  · intro i o listed A w hi ho hd hn hI
    unfold Rg34I at hI
    obtain ⟨s177, hI⟩ := hI
    obtain ⟨s178, hI⟩ := hI
    obtain ⟨s179, hI⟩ := hI
    obtain ⟨s180, hI⟩ := hI
    obtain ⟨s181, hI⟩ := hI
    obtain ⟨s182, hI⟩ := hI
    obtain ⟨s183, hI⟩ := hI
    obtain ⟨s184, hI⟩ := hI
    obtain ⟨s185, hI⟩ := hI
    obtain ⟨s186, hI⟩ := hI
    obtain ⟨s187, hI⟩ := hI
    obtain ⟨s188, hI⟩ := hI
    obtain ⟨s189, hI⟩ := hI
    obtain ⟨s190, hI⟩ := hI
    obtain ⟨s191, hI⟩ := hI
    obtain ⟨rfl, hI⟩ := hI
    obtain ⟨F0, hI⟩ := hI
    obtain ⟨F1, hI⟩ := hI
    obtain ⟨F2, hI⟩ := hI
    obtain ⟨F3, hI⟩ := hI
    obtain ⟨F4, hI⟩ := hI
    obtain ⟨F5, hI⟩ := hI
    obtain ⟨F6, hI⟩ := hI
    obtain ⟨F7, hI⟩ := hI
    obtain ⟨F8, hI⟩ := hI
    obtain ⟨F9, hI⟩ := hI
    obtain ⟨F10, hI⟩ := hI
    obtain ⟨F11, hI⟩ := hI
    obtain ⟨F12, hI⟩ := hI
    obtain ⟨F13, hI⟩ := hI
    obtain ⟨F14, hI⟩ := hI
    obtain ⟨F15, hI⟩ := hI
    obtain ⟨F16, hI⟩ := hI
    have F17 := hI; clear hI
    have hi' : i < 15 := hi
    clear hi
    rcases (by omega : i = 0 ∨ i = 1 ∨ i = 2 ∨ i = 3 ∨ i = 4 ∨ i = 5 ∨ i = 6 ∨ i = 7 ∨ i = 8 ∨ i = 9 ∨ i = 10 ∨ i = 11 ∨ i = 12 ∨ i = 13 ∨ i = 14) with rfl | rfl | rfl | rfl | rfl | rfl | rfl | rfl | rfl | rfl | rfl | rfl | rfl | rfl | rfl
    · simp only [List.getElem?_toArray, List.getElem?_cons_zero, Option.some.injEq] at ho
      subst ho
      refine wpOp_step rfl (fun K hK => ?_)
      go_simp
      refine hK _ _ ?_
      exact ⟨_, _, _, _, _, _, _, _, _, _, _, _, _, _, _, rfl, fun _ => rfl, lk F1, lk F2, lk F3, lk F4, lk F5, lk F6, lk F7, lk F8, lk F9, lk F10, lk F11, lk F12, lk F13, lk F14, F15, F16, F17⟩
    · simp only [List.getElem?_toArray, List.getElem?_cons_zero, List.getElem?_cons_succ, Option.some.injEq] at ho
      subst ho
      obtain rfl := F0 (hd ⟨0, .data⟩ (by simp) rfl)
      have h0 := F17
      refine wpOp_step rfl (fun K hK => ?_)
      go_simp
      refine hK _ _ ?_
      exact ⟨_, _, _, _, _, _, _, _, _, _, _, _, _, _, _, rfl, lk F0, fun _ => rfl, lk F2, lk F3, lk F4, lk F5, lk F6, lk F7, lk F8, lk F9, lk F10, lk F11, lk F12, lk F13, lk F14, F15, F16, F17⟩
    · simp only [List.getElem?_toArray, List.getElem?_cons_zero, List.getElem?_cons_succ, Option.some.injEq] at ho
      subst ho
      obtain rfl := F1 (hd ⟨1, .data⟩ (by simp) rfl)
      refine wpOp_step rfl (fun K hK => ?_)
      go_simp
      refine hK _ _ ?_
      exact ⟨_, _, _, _, _, _, _, _, _, _, _, _, _, _, _, rfl, lk F0, lk F1, fun _ => rfl, lk F3, lk F4, lk F5, lk F6, lk F7, lk F8, lk F9, lk F10, lk F11, lk F12, lk F13, lk F14, F15, F16, F17⟩
    · simp only [List.getElem?_toArray, List.getElem?_cons_zero, List.getElem?_cons_succ, Option.some.injEq] at ho
      subst ho
      obtain rfl := F2 (hd ⟨2, .data⟩ (by simp) rfl)
      refine wpOp_step rfl (fun K hK => ?_)
      go_simp
      refine hK _ _ ?_
      exact ⟨_, _, _, _, _, _, _, _, _, _, _, _, _, _, _, rfl, lk F0, lk F1, lk F2, fun _ => rfl, lk F4, lk F5, lk F6, lk F7, lk F8, lk F9, lk F10, lk F11, lk F12, lk F13, lk F14, F15, F16, F17⟩
    · simp only [List.getElem?_toArray, List.getElem?_cons_zero, List.getElem?_cons_succ, Option.some.injEq] at ho
      subst ho
      obtain rfl := F3 (hd ⟨3, .data⟩ (by simp) rfl)
      have h0 := V0.out _ F15
      refine wpOp_step rfl (fun K hK => ?_)
      go_simp
      refine hK _ _ ?_
      exact ⟨_, _, _, _, _, _, _, _, _, _, _, _, _, _, _, rfl, lk F0, lk F1, lk F2, lk F3, fun _ => rfl, lk F5, lk F6, lk F7, lk F8, lk F9, lk F10, lk F11, lk F12, lk F13, lk F14, F15, F16, F17⟩
    · simp only [List.getElem?_toArray, List.getElem?_cons_zero, List.getElem?_cons_succ, Option.some.injEq] at ho
      subst ho
      refine wpOp_step rfl (fun K hK => ?_)
      go_simp
      refine hK _ _ ?_
      exact ⟨_, _, _, _, _, _, _, _, _, _, _, _, _, _, _, rfl, lk F0, lk F1, lk F2, lk F3, lk F4, fun _ => rfl, lk F6, lk F7, lk F8, lk F9, lk F10, lk F11, lk F12, lk F13, lk F14, F15, F16, F17⟩
    · simp only [List.getElem?_toArray, List.getElem?_cons_zero, List.getElem?_cons_succ, Option.some.injEq] at ho
      subst ho
      obtain rfl := F4 (hd ⟨4, .data⟩ (by simp) rfl)
      obtain rfl := F5 (hd ⟨5, .data⟩ (by simp) rfl)
      refine wpOp_step rfl (fun K hK => ?_)
      go_simp
      refine hK _ _ ?_
      exact ⟨_, _, _, _, _, _, _, _, _, _, _, _, _, _, _, rfl, lk F0, lk F1, lk F2, lk F3, lk F4, lk F5, fun _ => rfl, lk F7, lk F8, lk F9, lk F10, lk F11, lk F12, lk F13, lk F14, F15, F16, F17⟩
    · simp only [List.getElem?_toArray, List.getElem?_cons_zero, List.getElem?_cons_succ, Option.some.injEq] at ho
      subst ho
      obtain rfl := F6 (hd ⟨6, .data⟩ (by simp) rfl)
      have h0 := Y0.out _ F15; have h1 := Y1.out _ F15; have h2 := Y2.out _ F15; have h3 := Y3.out _ F15; have h4 := Y4.out _ F15
      refine wpOp_step rfl (fun K hK => ?_)
      go_simp
      refine hK _ _ ?_
      exact ⟨_, _, _, _, _, _, _, _, _, _, _, _, _, _, _, rfl, lk F0, lk F1, lk F2, lk F3, lk F4, lk F5, lk F6, fun _ => rfl, lk F8, lk F9, lk F10, lk F11, lk F12, lk F13, lk F14, F15, F16, F17⟩
    · simp only [List.getElem?_toArray, List.getElem?_cons_zero, List.getElem?_cons_succ, Option.some.injEq] at ho
      subst ho
      refine wpOp_step rfl (fun K hK => ?_)
      go_simp
      refine hK _ _ ?_
      exact ⟨_, _, _, _, _, _, _, _, _, _, _, _, _, _, _, rfl, lk F0, lk F1, lk F2, lk F3, lk F4, lk F5, lk F6, lk F7, fun _ => rfl, lk F9, lk F10, lk F11, lk F12, lk F13, lk F14, F15, F16, F17⟩
    · simp only [List.getElem?_toArray, List.getElem?_cons_zero, List.getElem?_cons_succ, Option.some.injEq] at ho
      subst ho
      obtain rfl := F8 (hd ⟨8, .data⟩ (by simp) rfl)
      have h0 := F16
      refine wpOp_step rfl (fun K hK => ?_)
      go_simp
      refine hK _ _ ?_
      exact ⟨_, _, _, _, _, _, _, _, _, _, _, _, _, _, _, rfl, lk F0, lk F1, lk F2, lk F3, lk F4, lk F5, lk F6, lk F7, lk F8, fun _ => rfl, lk F10, lk F11, lk F12, lk F13, lk F14, F15, F16, F17⟩
    · simp only [List.getElem?_toArray, List.getElem?_cons_zero, List.getElem?_cons_succ, Option.some.injEq] at ho
      subst ho
      refine wpOp_step rfl (fun K hK => ?_)
      go_simp
      refine hK _ _ ?_
      exact ⟨_, _, _, _, _, _, _, _, _, _, _, _, _, _, _, rfl, lk F0, lk F1, lk F2, lk F3, lk F4, lk F5, lk F6, lk F7, lk F8, lk F9, fun _ => rfl, lk F11, lk F12, lk F13, lk F14, F15, F16, F17⟩
    · simp only [List.getElem?_toArray, List.getElem?_cons_zero, List.getElem?_cons_succ, Option.some.injEq] at ho
      subst ho
      obtain rfl := F9 (hd ⟨9, .data⟩ (by simp) rfl)
      obtain rfl := F10 (hd ⟨10, .data⟩ (by simp) rfl)
      refine wpOp_step rfl (fun K hK => ?_)
      go_simp
      refine hK _ _ ?_
      exact ⟨_, _, _, _, _, _, _, _, _, _, _, _, _, _, _, rfl, lk F0, lk F1, lk F2, lk F3, lk F4, lk F5, lk F6, lk F7, lk F8, lk F9, lk F10, fun _ => rfl, lk F12, lk F13, lk F14, F15, F16, F17⟩
    · simp only [List.getElem?_toArray, List.getElem?_cons_zero, List.getElem?_cons_succ, Option.some.injEq] at ho
      subst ho
      obtain rfl := F11 (hd ⟨11, .data⟩ (by simp) rfl)
      have h0 := Z0.out _ F15; have h1 := Z1.out _ F15; have h2 := Z2.out _ F15; have h3 := Z3.out _ F15; have h4 := Z4.out _ F15
      refine wpOp_step rfl (fun K hK => ?_)
      go_simp
      refine hK _ _ ?_
      exact ⟨_, _, _, _, _, _, _, _, _, _, _, _, _, _, _, rfl, lk F0, lk F1, lk F2, lk F3, lk F4, lk F5, lk F6, lk F7, lk F8, lk F9, lk F10, lk F11, fun _ => rfl, lk F13, lk F14, F15, F16, F17⟩
    · simp only [List.getElem?_toArray, List.getElem?_cons_zero, List.getElem?_cons_succ, Option.some.injEq] at ho
      subst ho
      obtain rfl := F7 (hd ⟨7, .data⟩ (by simp) rfl)
      obtain rfl := F12 (hd ⟨12, .data⟩ (by simp) rfl)
      refine wpOp_step rfl (fun K hK => ?_)
      go_simp
      go_at_call 11
      refine (H1.out _ F15).mono ?_
      rintro e w' ⟨rfl, hb⟩
      refine hK _ _ ?_
      exact ⟨_, _, _, _, _, _, _, _, _, _, _, _, _, _, _, rfl, lk F0, lk F1, lk F2, lk F3, lk F4, lk F5, lk F6, lk F7, lk F8, lk F9, lk F10, lk F11, lk F12, fun _ => rfl, lk F14, bt F15 hb, cell_call F16 hb, cell_call F17 hb⟩
    · simp only [List.getElem?_toArray, List.getElem?_cons_zero, List.getElem?_cons_succ, Option.some.injEq] at ho
      subst ho
      obtain rfl := F13 (hd ⟨13, .data⟩ (by simp) rfl)
      refine wpOp_step rfl (fun K hK => ?_)
      go_simp
      refine hK _ _ ?_
      exact ⟨_, _, _, _, _, _, _, _, _, _, _, _, _, _, _, rfl, lk F0, lk F1, lk F2, lk F3, lk F4, lk F5, lk F6, lk F7, lk F8, lk F9, lk F10, lk F11, lk F12, lk F13, fun _ => rfl, F15, F16, F17⟩
  · intro listed A w hall hI
    unfold Rg34I at hI
    obtain ⟨s177, hI⟩ := hI
    obtain ⟨s178, hI⟩ := hI
    obtain ⟨s179, hI⟩ := hI
    obtain ⟨s180, hI⟩ := hI
    obtain ⟨s181, hI⟩ := hI
    obtain ⟨s182, hI⟩ := hI
    obtain ⟨s183, hI⟩ := hI
    obtain ⟨s184, hI⟩ := hI
    obtain ⟨s185, hI⟩ := hI
    obtain ⟨s186, hI⟩ := hI
    obtain ⟨s187, hI⟩ := hI
    obtain ⟨s188, hI⟩ := hI
    obtain ⟨s189, hI⟩ := hI
    obtain ⟨s190, hI⟩ := hI
    obtain ⟨s191, hI⟩ := hI
    obtain ⟨rfl, hI⟩ := hI
    obtain ⟨F0, hI⟩ := hI
    obtain ⟨F1, hI⟩ := hI
    obtain ⟨F2, hI⟩ := hI
    obtain ⟨F3, hI⟩ := hI
    obtain ⟨F4, hI⟩ := hI
    obtain ⟨F5, hI⟩ := hI
    obtain ⟨F6, hI⟩ := hI
    obtain ⟨F7, hI⟩ := hI
    obtain ⟨F8, hI⟩ := hI
    obtain ⟨F9, hI⟩ := hI
    obtain ⟨F10, hI⟩ := hI
    obtain ⟨F11, hI⟩ := hI
    obtain ⟨F12, hI⟩ := hI
    obtain ⟨F13, hI⟩ := hI
    obtain ⟨F14, hI⟩ := hI
    obtain ⟨F15, hI⟩ := hI
    obtain ⟨F16, hI⟩ := hI
    have F17 := hI; clear hI
    obtain rfl := F0 (hall 0 (by decide))
    obtain rfl := F1 (hall 1 (by decide))
    obtain rfl := F2 (hall 2 (by decide))
    obtain rfl := F3 (hall 3 (by decide))
    obtain rfl := F4 (hall 4 (by decide))
    obtain rfl := F5 (hall 5 (by decide))
    obtain rfl := F6 (hall 6 (by decide))
    obtain rfl := F7 (hall 7 (by decide))
    obtain rfl := F8 (hall 8 (by decide))
    obtain rfl := F9 (hall 9 (by decide))
    obtain rfl := F10 (hall 10 (by decide))
    obtain rfl := F11 (hall 11 (by decide))
    obtain rfl := F12 (hall 12 (by decide))
    obtain rfl := F13 (hall 13 (by decide))
    obtain rfl := F14 (hall 14 (by decide))
    have HB := F15
    have Q0 := F16
    have Q1 := F17
    exact hQ _ trivial HB
end Go.Proofs.YtpdaldpaceolnaaGreatDoor
namespace Go.Proofs.YtpdaldpaceolnaaGreatDoor
open Go.RowKit Go.Lib
set_option maxRecDepth 100000
set_option maxHeartbeats 32000000
theorem wraps_law (s rm : List UInt8) (_hs : s.length ≤ maxLen) (_hrm : rm.length ≤ maxLen) (w : World) (hE : Env w) : Calls Tryz.prog 4 #[.string (ba' s), .string (ba' rm)] w fun e w' => e = .returned (.bool true) ∧ Below w.heap.size w w' := by
  have hsz : (ba' s).size = s.length := size_ba s
  have hrz : (ba' rm).size = rm.length := size_ba rm
  have HAW : Hid (∀ W, Below w.heap.size w W → Calls Tryz.prog 8 #[] W fun e w' => e = .returned (.bool true) ∧ Below W.heap.size W w') := Lib.hid fun W hW => awake_any W (hE.below hW)
  have HP : Hid (∀ (m : List UInt8) (W : World), m.length ≤ 100000 → Below w.heap.size w W → Calls Tryz.prog 9 #[.string (ba' m)] W (PvPost (parseF m) W)) := Lib.hid fun m W hm hW => parse_any m hm W (hE.below hW)
  clear hE
  obtain ⟨n, hn⟩ : ∃ n, s.length = n := ⟨_, rfl⟩
  obtain ⟨k, hk⟩ : ∃ k, rm.length = k := ⟨_, rfl⟩
  have HN := Lib.hid hn
  have HK := Lib.hid hk
  rw [hn] at _hs hsz
  rw [hk] at _hrm hrz
  clear hn hk
  by_cases hbad : 20000 < n ∨ 200 < k
  · have q0 : (decide ((20000 : Int) < (n : Int)) || decide ((200 : Int) < (k : Int))) = true := by
      rcases hbad with h | h
      · rw [decide_eq_true (show (20000 : Int) < (n : Int) by omega), Bool.true_or]
      · rw [decide_eq_true (show (200 : Int) < (k : Int) by omega), Bool.or_true]
    obtain ⟨b1, hb1⟩ : ∃ b, decide ((20000 : Int) < (n : Int)) = b := ⟨_, rfl⟩
    obtain ⟨b2, hb2⟩ : ∃ b, decide ((200 : Int) < (k : Int)) = b := ⟨_, rfl⟩
    have hb1' : decide ((n : Int) > 20000) = b1 := hb1
    have hb2' : decide ((k : Int) > 200) = b2 := hb2
    rw [hb1, hb2] at q0
    clear hbad _hs _hrm
    go_enter Tryz.func4, Tryz.ntmps4
    go_wp2_with fail
    refine (HAW.out _ (Below.refl _ _)).mono ?_
    rintro e w1 ⟨rfl, hbe1⟩
    have HB1 := Lib.hid hbe1
    clear hbe1
    cases b1 with
    | true =>
      go_wp2_with fail
      refine (HAW.out _ (by have := HB1.out; repeat (with_reducible (first | assumption | apply ba | apply bd | apply bdr)))).mono ?_
      rintro e w2 ⟨rfl, hbe2⟩
      have HB2 := bt HB1.out hbe2
      go_wp2
      go_ret
      exact ⟨rfl, by repeat (with_reducible (first | assumption | apply ba | apply bd | apply bdr))⟩
    | false =>
      obtain rfl : b2 = true := by simpa using q0
      go_wp2_with fail
      refine (HAW.out _ (by have := HB1.out; repeat (with_reducible (first | assumption | apply ba | apply bd | apply bdr)))).mono ?_
      rintro e w2 ⟨rfl, hbe2⟩
      have HB2 := bt HB1.out hbe2
      go_wp2
      go_ret
      exact ⟨rfl, by repeat (with_reducible (first | assumption | apply ba | apply bd | apply bdr))⟩
  · have hl1 : n ≤ 20000 := by omega
    have hl2 : k ≤ 200 := by omega
    clear hbad _hs _hrm
    have b1 : decide ((20000 : Int) < (n : Int)) = false := decide_eq_false (by omega)
    have b1' : decide ((n : Int) > 20000) = false := b1
    have b2 : decide ((200 : Int) < (k : Int)) = false := decide_eq_false (by omega)
    have b2' : decide ((k : Int) > 200) = false := b2
    obtain ⟨R, hR⟩ : ∃ R, parseF s = R := ⟨_, rfl⟩
    have HP1 : Hid (∀ W : World, Below w.heap.size w W → Calls Tryz.prog 9 #[.string (ba' s)] W (PvPost R W)) := Lib.hid fun W hW => by rw [← hR]; exact HP.out s W (by rw [HN.out]; omega) hW
    obtain ⟨RU, hRU⟩ : ∃ R, parseF (wrapU rm s) = R := ⟨_, rfl⟩
    obtain ⟨RZ, hRZ⟩ : ∃ R, parseF (wrapZ s) = R := ⟨_, rfl⟩
    have HPU : Hid (∀ W : World, Below w.heap.size w W → Calls Tryz.prog 9 #[.string (ba' (wrapU rm s))] W (PvPost RU W)) := Lib.hid fun W hW => by rw [← hRU]; exact HP.out _ W (by unfold wrapU; simp only [List.length_append, List.length_cons, List.length_nil]; rw [HN.out, HK.out]; omega) hW
    have HPZ : Hid (∀ W : World, Below w.heap.size w W → Calls Tryz.prog 9 #[.string (ba' (wrapZ s))] W (PvPost RZ W)) := Lib.hid fun W hW => by rw [← hRZ]; exact HP.out _ W (by unfold wrapZ; simp only [List.length_append, List.length_cons, List.length_nil]; rw [HN.out]; omega) hW
    have HUB := Lib.hid (wrapU_ba rm s)
    have HZB := Lib.hid (wrapZ_ba s)
    have HLL := Lib.hid (And.intro hl1 hl2)
    have HRU := Lib.hid hRU
    have HRZ := Lib.hid hRZ
    have HRR := Lib.hid hR
    clear hl1 hl2 HP hRU hRZ hR
    go_enter Tryz.func4, Tryz.ntmps4
    go_wp2_with fail
    refine (HAW.out _ (Below.refl _ _)).mono ?_
    rintro e w1 ⟨rfl, hbe1⟩
    have HB1 := Lib.hid hbe1
    clear hbe1 HAW
    go_wp2_with fail
    refine (HP1.out _ (by have := HB1.out; repeat (with_reducible (first | assumption | apply ba | apply bd | apply bdr)))).mono ?_
    rintro e w2 he
    clear HP1 b1 b2 b1' b2'
    obtain ⟨tk, tn, tv, tA, tan, tac, tK, tkn, tkc, z, rfl, hb2⟩ := pv_form he
    have HE := Lib.hid he
    have HB2 := Lib.hid (bt HB1.out hb2)
    clear he hb2
    go_wp2_with fail
    go_loopw [7] (fun s7 wx => ∃ i : Nat, s7 = .int .i64 (i : Nat) ∧ i ≤ k ∧ Hid (∀ x ∈ rm.take i, rmk x = true) ∧ Below (w2.heap.size + 1) (w2.alloc (.cells #[.int .i64 tk, .string tn, .string tv, .slice tA tan tac, .slice tK tkn tkc] 27)) wx) (fun s7 _ => k - (intOf s7).toNat)
    case atStart => exact ⟨0, rfl, Nat.zero_le _, Lib.hid (fun x hx => by rw [List.take_zero] at hx; cases hx), by repeat (with_reducible (first | exact Below.refl _ _ | assumption | apply ba | apply bd | apply bdr))⟩
    case round =>
      obtain ⟨i, rfl, hi, hgood, hB⟩ := hrel
      have HBW : Hid (Below w.heap.size w wr) := Lib.hid (bt (ba HB2.out) (hB.mono (by simp)))
      have HBL := Lib.hid hB
      clear hB
      by_cases hik : i < k
      · have hlt : i < rm.length := by rw [HK.out]; exact hik
        obtain ⟨c, hc⟩ : ∃ c, rm[i]'hlt = c := ⟨_, rfl⟩
        have hlt' : i < (ba' rm).size := by rw [hrz]; exact hik
        have ec : (ba' rm)[i]'hlt' = c := hc
        have q1 : decide ((i : Int) < (k : Int)) = true := decide_eq_true (by omega)
        have vi : wrap64 ((i : Int) + 1) = (i : Int) + 1 := by have := HLL.out.2; unfold wrap64; omega
        have HG : Hid (rmk c = true → ∀ x ∈ rm.take (i + 1), rmk x = true) := Lib.hid fun h x hx => by
          rw [List.take_succ_eq_append_getElem hlt, hc] at hx
          rcases List.mem_append.1 hx with hx | hx
          · exact hgood.out x hx
          · rw [List.mem_singleton.1 hx]; exact h
        have HIK := Lib.hid hik
        clear hgood hc hlt
        cases hm : rmk c with
        | false =>
          rcases rmk_bad hm with h | ⟨h0, h⟩ | ⟨h0, h1, h⟩
          · have f45 : ((c.toNat : Int) == 45) = true := by rw [h]; rfl
            clear hm h
            go_wp2
            go_ret
            exact ⟨rfl, HBW.out⟩
          · have f45 : ((c.toNat : Int) == 45) = false := by rw [beq_eq_false_iff_ne]; omega
            have f32 : decide ((c.toNat : Int) < 32) = true := decide_eq_true (by omega)
            have f32' : decide (c.toNat < 32) = true := decide_eq_true h
            clear hm h h0
            go_wp2
            go_ret
            exact ⟨rfl, HBW.out⟩
          · have f45 : ((c.toNat : Int) == 45) = false := by rw [beq_eq_false_iff_ne]; omega
            have f32 : decide ((c.toNat : Int) < 32) = false := decide_eq_false (by omega)
            have f32' : decide (c.toNat < 32) = false := decide_eq_false (by omega)
            have f126 : decide ((126 : Int) < (c.toNat : Int)) = true := decide_eq_true (by omega)
            have f126' : decide (126 < c.toNat) = true := decide_eq_true h
            clear hm h h0 h1
            go_wp2
            go_ret
            exact ⟨rfl, HBW.out⟩
        | true =>
          obtain ⟨h0, h1, h2⟩ := rmk_good hm
          have f45 : ((c.toNat : Int) == 45) = false := by rw [beq_eq_false_iff_ne]; omega
          have f32 : decide ((c.toNat : Int) < 32) = false := decide_eq_false (by omega)
          have f32' : decide (c.toNat < 32) = false := decide_eq_false (by omega)
          have f126 : decide ((126 : Int) < (c.toNat : Int)) = false := decide_eq_false (by omega)
          have f126' : decide (126 < c.toNat) = false := decide_eq_false (by omega)
          clear h0 h1 h2
          go_wp2
          simp only [vi]
          exact ⟨⟨i + 1, by simp, by have := HIK.out; omega, Lib.hid (HG.out hm), HBL.out⟩, by simp [intOf]; have := HIK.out; omega⟩
      · obtain rfl : i = k := by omega
        have HGOOD : Hid (∀ x ∈ rm, rmk x = true) := Lib.hid (by have := hgood.out; rw [← HK.out, List.take_length] at this; exact this)
        have q1 : decide ((i : Int) < (i : Int)) = false := decide_eq_false (by omega)
        obtain ⟨RM, hRM⟩ : ∃ b, ba' rm = b := ⟨_, rfl⟩
        obtain ⟨S, hS⟩ : ∃ b, ba' s = b := ⟨_, rfl⟩
        rw [hRM] at hrz HUB ⊢
        rw [hS] at hsz HUB HZB ⊢
        have hz1 : RM.size ≤ 200 := by rw [hrz]; exact HLL.out.2
        have hz2 : S.size ≤ 20000 := by rw [hsz]; exact HLL.out.1
        have g1 : ¬ 9223372036854775807 < 5 + RM.size := by omega
        have g2 : ¬ 9223372036854775807 < 5 + RM.size + 4 := by omega
        have g3 : ¬ 9223372036854775807 < 5 + RM.size + 4 + S.size := by omega
        have g4 : ¬ 9223372036854775807 < 5 + RM.size + 4 + S.size + 1 := by omega
        have HRM := Lib.hid hRM
        clear hgood hik hi hRM hS
        go_wp2_with fail
        rw [HUB.out]
        refine (HPU.out _ HBW.out).mono ?_
        rintro e3 w3 he3
        obtain ⟨uk, un, uv, uA, uan, uac, uK, ukn, ukc, z3, rfl, hb3⟩ := pv_form he3
        have HE3 := Lib.hid he3
        have HB3 := Lib.hid (bt HBW.out hb3)
        clear he3
        rcases ok_form HE.out with ⟨rfl, rfl⟩ | ⟨rfl, rfl⟩ | ⟨T, q, rfl, rfl, tn', tv', tps, tks, rfl, rfl, rfl, rfl, hp, hin, hcap⟩
        · clear hb3
          by_cases hzz : (z3 == 61) = true
          · go_wp2
            go_ret
            exact ⟨rfl, by have := HB3.out; repeat (with_reducible (first | assumption | apply ba | apply bd | apply bdr))⟩
          · have hzf : (z3 == 61) = false := by simpa using hzz
            clear hzz
            go_wp2
            go_ret
            exact ⟨rfl, by have := HB3.out; repeat (with_reducible (first | assumption | apply ba | apply bd | apply bdr))⟩
        · clear hb3
          by_cases hzz : (z3 == 15) = true
          · go_wp2
            go_ret
            exact ⟨rfl, by have := HB3.out; repeat (with_reducible (first | assumption | apply ba | apply bd | apply bdr))⟩
          · have hzf : (z3 == 15) = false := by simpa using hzz
            clear hzz
            go_wp2
            go_ret
            exact ⟨rfl, by have := HB3.out; repeat (with_reducible (first | assumption | apply ba | apply bd | apply bdr))⟩
        · obtain ⟨ks, rfl⟩ := parseF_tree HRR.out
          simp only [Tr.pl, PT.mk.injEq] at hp
          obtain ⟨rfl, rfl, rfl, rfl, hpk⟩ := hp
          have hWU : RU = .ok (.mk 1 [] [] [] (.mk 5 [] rm [] [] :: ks)) [] := by rw [← HRU.out]; exact parse_wrapU HRR.out HGOOD.out
          have hWZ := Lib.hid (parse_wrapZ HRR.out)
          rcases ok_form HE3.out with ⟨h, _⟩ | ⟨h, _⟩ | ⟨TU, qU, hTU, rfl, un', uv', ups, uks, rfl, rfl, rfl, rfl, hpu, hinu, hcapu⟩
          · rw [hWU] at h; cases h
          · rw [hWU] at h; cases h
          rw [hWU] at hTU
          obtain ⟨rfl, rfl⟩ := XR.ok.inj hTU
          simp only [Tr.pl, PT.mk.injEq] at hpu
          obtain ⟨rfl, rfl, rfl, rfl, hpuk⟩ := hpu
          obtain ⟨u0, uks', rfl, hu0, hukk⟩ := tr_first hpuk
          obtain ⟨u0k, u0n, u0v, u0A, u0ac, u0ps, u0K, u0kc, u0ks⟩ := u0
          simp only [Tr.pl, PT.mk.injEq] at hu0
          obtain ⟨rfl, rfl, hrv, rfl, hu0k⟩ := hu0
          have hrv' := hrv.symm
          clear hrv
          subst hrv'
          obtain ⟨m, hm⟩ : ∃ m, tks.length = m := ⟨_, rfl⟩
          have hm2 : uks'.length = m := by rw [← hm, ← plL_len' uks', ← plL_len' tks, hukk, hpk]
          have hm3 : (Tr.mk 5 [] rm u0A u0ac [] u0K u0kc u0ks :: uks').length = m + 1 := by rw [List.length_cons, hm2]
          have hfit : ∀ t ∈ ks, t.fit := fit_kids (parseF_bulk HRR.out (by rw [HN.out]; have := HLL.out.1; omega))
          have hmm : m ≤ 1048576 := by rw [← hm, ← plL_len' tks, hpk]; exact kids_len (parseF_bulk HRR.out (by rw [HN.out]; have := HLL.out.1; omega))
          simp only [Tr.In] at hin hinu
          obtain ⟨_, hrowT, hinT⟩ := hin
          obtain ⟨_, hrowU, hinU⟩ := hinu
          rw [hm] at hrowT
          rw [hm3] at hrowU
          rw [hm] at HBL ⊢
          rw [hm3]
          have hsw : w2.heap.size < wr.heap.size := by have := HBL.out.size; simp at this; omega
          have hw23 : w2.heap.size < w3.heap.size := Nat.lt_of_lt_of_le hsw hb3.size
          have c4 : w3.cell? ⟨w2.heap.size, 4, none⟩ = some (.slice tK m tkc) := (hb3.cell (p := ⟨w2.heap.size, 4, none⟩) hsw).trans ((HBL.out.cell (by simp)).trans (by go_simp))
          have hB23 : Below w2.heap.size w2 w3 := ((ba (Below.refl _ _)).trans (HBL.out.mono (by simp))).trans (hb3.mono (Nat.le_of_lt hsw))
          have HRT : Hid (RdP (NewB w1 w2) w3 5 tK m (rowT tks)) := Lib.hid (hrowT.below (fun _ h => h.2) hB23)
          have HIT : Hid (InL (NewB w1 w2) w3 tks) := Lib.hid (inL_iff.2 fun t ht => (inL_iff.1 hinT t ht).below (fun _ h => h.2) hB23)
          have HRU2 := Lib.hid hrowU
          have HIU := Lib.hid hinU
          have HPB : Hid (∀ b, NewB w1 w2 b → b < w3.heap.size) := Lib.hid fun b h => Nat.lt_trans h.2 hw23
          have HSM : Hid (∀ (i : Nat) (x y : Tr), uks'[i]? = some x → tks[i]? = some y → ∀ W, Below w3.heap.size w3 W → Calls Tryz.prog 11 #[x.v, y.v] W fun e w' => e = .returned (.bool true) ∧ Below W.heap.size W w') := Lib.hid fun i x y hx hy W hW => by
            have hxm := List.mem_of_getElem? hx
            have hym := List.mem_of_getElem? hy
            have hpe := tr_at (L := uks') (L' := tks) (by rw [hukk, hpk]) hx hy
            have hyk : y.pl ∈ ks := by rw [← hpk, plL_map]; exact List.mem_map_of_mem hym
            exact same_any x y (NewB wr w3) (NewB w1 w2) W ((inL_iff.1 HIU.out x (.tail _ hxm)).below (fun _ h => h.2) hW) ((inL_iff.1 HIT.out y hym).below HPB.out hW) (fun b h => Nat.lt_of_lt_of_le h.2 hW.size) (fun b h => Nat.lt_of_lt_of_le (HPB.out b h) hW.size) hpe (by rw [hpe]; exact hfit _ hyk)
          have HML := Lib.hid hm
          have HML2 := Lib.hid hm2
          have HPK := Lib.hid hpk
          have HFT := Lib.hid hfit
          have HW23 := Lib.hid hw23
          obtain ⟨ad2, rfl, hPb2, f0, f1, f2, f3, f4⟩ := kid_at hrowU (i := 0) rfl (by omega)
          have hbl2 : (ad2.add (0 * 5)).block < w3.heap.size := by rw [block_of_add]; exact hPb2.2
          simp only [Nat.zero_mul] at f0 f2 hbl2
          have haz : ad2.add 0 = ad2 := by
            obtain ⟨x, y, z⟩ := ad2
            unfold Addr.add
            split <;> simp_all
          simp only [haz] at f0 f2 hbl2
          rw [HRM.out] at f2
          have hB3a := fun o => ba (o := o) (Below.refl w3.heap.size w3)
          have c4a := fun o => ((hB3a o).cell (p := ⟨w2.heap.size, 4, none⟩) hw23).trans c4
          have f0a := fun o => ((hB3a o).cell (p := ad2) hbl2).trans f0
          have f2a := fun o => ((hB3a o).cell (p := { block := ad2.block, off := ad2.off + 2 }) hbl2).trans f2
          have vm : wrap64 ((m : Int) + 1) = (m : Int) + 1 := by unfold wrap64; omega
          have C4 := Lib.hid c4
          have HM := Lib.hid hmm
          clear hcap hcapu hmm hrowT hrowU hinT hinU hm hm2 hm3 hpk hukk hpuk hu0k hfit hWU hTU hw23 hsw hB23 hb3 c4 f0 f1 f2 f3 f4 hbl2 haz hPb2 hB3a hz1 g1 g2 g3 g4
          go_wp2_with fail
          clear f0a f2a
          go_loopw [10] (fun s10 wx => ∃ j : Nat, s10 = .int .i64 (j : Nat) ∧ j ≤ m ∧ Below (w3.heap.size + 1) (w3.alloc (.cells #[.int .i64 1, .string (ba' []), .string (ba' []), .slice uA 0 uac, .slice (some ad2) (m + 1) ukc] 27)) wx) (fun s10 _ => m - (intOf s10).toNat)
          case atStart => exact ⟨0, rfl, Nat.zero_le _, by repeat (with_reducible (first | exact Below.refl _ _ | assumption | apply ba | apply bd | apply bdr))⟩
          case round =>
            obtain ⟨j, rfl, hj, hBx⟩ := hrel
            clear c4a
            have c4 := (hBx.cell (p := ⟨w2.heap.size, 4, none⟩) (Nat.lt_succ_of_lt HW23.out)).trans (((ba (Below.refl _ _)).cell (p := ⟨w2.heap.size, 4, none⟩) HW23.out).trans C4.out)
            have u4 : wr.cell? ⟨w3.heap.size, 4, none⟩ = some (.slice (some ad2) (m + 1) ukc) := (hBx.cell (by simp)).trans (by go_simp)
            have hB3x : Below w3.heap.size w3 wr := (ba (Below.refl _ _)).trans (hBx.mono (by simp))
            have HBX := Lib.hid hBx
            have HB3X := Lib.hid hB3x
            have HBWX : Hid (Below w.heap.size w wr) := Lib.hid (bt HB3.out hB3x)
            by_cases hjm : j < m
            · have g0 : decide ((j : Int) < (m : Int)) = true := decide_eq_true (by omega)
              have vj : wrap64 ((j : Int) + 1) = (j : Int) + 1 := by have := HM.out; unfold wrap64; omega
              obtain ⟨y, hy⟩ : ∃ y, tks[j]? = some y := ⟨_, List.getElem?_eq_getElem (by rw [HML.out]; exact hjm)⟩
              obtain ⟨x, hx⟩ : ∃ x, uks'[j]? = some x := ⟨_, List.getElem?_eq_getElem (by rw [HML2.out]; exact hjm)⟩
              have HC := Lib.hid (fun W (h1 : Below wr.heap.size wr W) => HSM.out j x y hx hy W (bt hB3x h1))
              have hka := HRT.out.below HPB.out hB3x
              have hkb := HRU2.out.below (fun _ h => h.2) hB3x
              obtain ⟨xk, xn, xv, xA, xac, xps, xK, xkc, xks⟩ := x
              obtain ⟨yk, yn, yv, yA, yac, yps, yK, ykc, yks⟩ := y
              obtain ⟨ad, rfl, hPad, d0, d1, d2, d3, d4⟩ := kid_at hka hy hjm
              obtain ⟨ad3, had, hPad2, f0, f1, f2, f3, f4⟩ := kid_at hkb (i := j + 1) (by rw [List.getElem?_cons_succ]; exact hx) (by omega)
              obtain rfl := Option.some.inj had
              obtain ⟨xp, hxp⟩ : ∃ q, xps.length = q := ⟨_, rfl⟩
              obtain ⟨xq, hxq⟩ : ∃ q, xks.length = q := ⟨_, rfl⟩
              obtain ⟨yp, hyp⟩ : ∃ q, yps.length = q := ⟨_, rfl⟩
              obtain ⟨yq, hyq⟩ : ∃ q, yks.length = q := ⟨_, rfl⟩
              simp only [Tr.v] at HC
              rw [hxp, hxq, hyp, hyq] at HC
              rw [hyp] at d3
              rw [hyq] at d4
              rw [hxp] at f3
              rw [hxq] at f4
              have HJM := Lib.hid hjm
              have hjm' : decide (j < m) = true := decide_eq_true hjm
              have hbA : (ad.add (j * 5)).block < wr.heap.size := by rw [block_of_add]; exact Nat.lt_of_lt_of_le (HPB.out _ hPad) hB3x.size
              have hbB : (ad2.add ((j + 1) * 5)).block < wr.heap.size := by rw [block_of_add]; exact Nat.lt_of_lt_of_le hPad2.2 hB3x.size
              clear hka hkb hy hx hxp hxq hyp hyq hPad hPad2 hBx hB3x hj had
              go_wp2
              refine Rg17_region w2.heap.size w3.heap.size m j tkc ukc ad ad2 xk xn xv xA xK xp xac xq xkc yk yn yv yA yK yp yac yq ykc wr (Below.refl _ _) c4 u4 (Lib.hid fun w1 h1 => (h1.cell hbA).trans d0) (Lib.hid fun w1 h1 => (h1.cell (p := { block := (ad.add (j * 5)).block, off := (ad.add (j * 5)).off + 1 }) hbA).trans d1) (Lib.hid fun w1 h1 => (h1.cell (p := { block := (ad.add (j * 5)).block, off := (ad.add (j * 5)).off + 2 }) hbA).trans d2) (Lib.hid fun w1 h1 => (h1.cell (p := { block := (ad.add (j * 5)).block, off := (ad.add (j * 5)).off + 3 }) hbA).trans d3) (Lib.hid fun w1 h1 => (h1.cell (p := { block := (ad.add (j * 5)).block, off := (ad.add (j * 5)).off + 4 }) hbA).trans d4) (Lib.hid fun w1 h1 => (h1.cell hbB).trans f0) (Lib.hid fun w1 h1 => (h1.cell (p := { block := (ad2.add ((j + 1) * 5)).block, off := (ad2.add ((j + 1) * 5)).off + 1 }) hbB).trans f1) (Lib.hid fun w1 h1 => (h1.cell (p := { block := (ad2.add ((j + 1) * 5)).block, off := (ad2.add ((j + 1) * 5)).off + 2 }) hbB).trans f2) (Lib.hid fun w1 h1 => (h1.cell (p := { block := (ad2.add ((j + 1) * 5)).block, off := (ad2.add ((j + 1) * 5)).off + 3 }) hbB).trans f3) (Lib.hid fun w1 h1 => (h1.cell (p := { block := (ad2.add ((j + 1) * 5)).block, off := (ad2.add ((j + 1) * 5)).off + 4 }) hbB).trans f4) hjm hjm' (by rw [IntWalk.i64_left]; exact vj) (by omega) HC ?_
              intro w9 _ hb9
              have HB9 : Hid (Below (w3.heap.size + 1) (w3.alloc (.cells #[.int .i64 1, .string (ba' []), .string (ba' []), .slice uA 0 uac, .slice (some ad2) (m + 1) ukc] 27)) w9) := Lib.hid (HBX.out.trans (hb9.mono (by have := HBX.out.size; simp at this; omega)))
              clear hbA hbB hb9 d0 d1 d2 d3 d4 f0 f1 f2 f3 f4 c4 u4 hjm hjm' HC
              go_wp2
              simp only [vj]
              exact ⟨⟨j + 1, by simp, HJM.out, HB9.out⟩, by simp [intOf]; have := HJM.out; omega⟩
            · obtain rfl : j = m := by omega
              have g0 : decide ((j : Int) < (j : Int)) = false := decide_eq_false (by omega)
              have g5 : ¬ 9223372036854775807 < 4 + S.size := by omega
              have g6 : ¬ 9223372036854775807 < 4 + S.size + 5 := by omega
              clear hBx hB3x hjm hj
              go_wp2_with fail
              rw [HZB.out]
              refine (HPZ.out _ HBWX.out).mono ?_
              rintro e4 w4 he4
              obtain ⟨wk, wn, wv, wA, wan, wac, wK, wkn, wkc, z4, rfl, hb4⟩ := pv_form he4
              have HE4 := Lib.hid he4
              have HB4 := Lib.hid (bt HBWX.out hb4)
              clear he4 c4 u4 g5 g6
              have hz4 := hWZ.out
              rw [HRZ.out] at hz4
              rcases hz4 with hZ | ⟨a, t0, b, ks1, ks2, rfl, ha5, hb5, ht2, hk1, hk2, hZ⟩
              · rcases ok_form HE4.out with ⟨h, _⟩ | ⟨_, rfl⟩ | ⟨T4, q4, h, _⟩
                · rw [hZ] at h; cases h
                · clear hb4 hZ
                  go_wp2
                  go_ret
                  exact ⟨rfl, by have := HB4.out; repeat (with_reducible (first | assumption | apply ba | apply bd | apply bdr))⟩
                · rw [hZ] at h; cases h
              · rcases ok_form HE4.out with ⟨h, _⟩ | ⟨h, _⟩ | ⟨T4, q4, hT4, rfl, wn', wv', wps, wks, rfl, rfl, rfl, rfl, hpw, hinw, hcapw⟩
                · rw [hZ] at h; cases h
                · rw [hZ] at h; cases h
                rw [hZ] at hT4
                obtain ⟨rfl, rfl⟩ := XR.ok.inj hT4
                simp only [Tr.pl, PT.mk.injEq] at hpw
                obtain ⟨rfl, rfl, rfl, rfl, hpwk⟩ := hpw
                obtain ⟨w0, rfl, hw0⟩ := one_tree hpwk
                obtain ⟨w0k, w0n, w0v, w0A, w0ac, w0ps, w0K, w0kc, qks⟩ := w0
                simp only [Tr.pl, PT.mk.injEq] at hw0
                obtain ⟨rfl, rfl, rfl, rfl, hq⟩ := hw0
                simp only [Tr.In] at hinw
                obtain ⟨_, hrowW, hinW⟩ := hinw
                have hinW0 := inL_iff.1 hinW _ (.head _)
                simp only [Tr.In] at hinW0
                obtain ⟨_, hrowQ, hinQ⟩ := hinW0
                obtain ⟨na, hna⟩ : ∃ na, a.length = na := ⟨_, rfl⟩
                obtain ⟨n1, hn1⟩ : ∃ n1, ks1.length = n1 := ⟨_, rfl⟩
                obtain ⟨M, hM⟩ : ∃ M, qks.length = M := ⟨_, rfl⟩
                have HMB : Hid (M ≤ 9223372036854775807) := Lib.hid (by
                  simp only [Tr.Caps, CapsL] at hcapw
                  have h1 := hcapw.2.2.1.1
                  have h2 := hcapw.2.2.1.2.1
                  unfold maxLen at h2
                  rw [← hM]
                  omega)
                clear hcapw
                have hnam : na < j := by rw [← HML.out, ← plL_len' tks, HPK.out, ← hna]; simp only [List.length_append, List.length_cons]; omega
                have hn1M : n1 < M := by rw [← hM, ← plL_len' qks, hq, ← hn1]; simp only [List.length_append, List.length_cons]; omega
                have HKT : Hid (∀ (i : Nat) (y : Tr), tks[i]? = some y → (y.pl.k = 2 ↔ i = na)) := Lib.hid fun i y hy => by
                  rw [← hna]
                  exact mid_kind (fun x hx => by rw [ha5 x hx]; decide) (fun x hx => by rw [hb5 x hx]; decide) ht2 (by rw [← HPK.out]; exact plL_at hy)
                have HKQ : Hid (∀ (i : Nat) (y : Tr), qks[i]? = some y → (y.pl.k = 2 ↔ i = n1)) := Lib.hid fun i y hy => by
                  rw [← hn1]
                  exact mid_kind hk1 hk2 ht2 (by rw [← hq]; exact plL_at hy)
                obtain ⟨yt, hyt, hytp⟩ := tr_some HPK.out (i := na) (by rw [← hna]; exact mid_at a b t0)
                obtain ⟨xt, hxt, hxtp⟩ := tr_some hq (i := n1) (by rw [← hn1]; exact mid_at ks1 ks2 t0)
                have h34 : Below w3.heap.size w3 w4 := HB3X.out.trans (hb4.mono HB3X.out.size)
                have hw24 : w2.heap.size < w4.heap.size := Nat.lt_of_lt_of_le HW23.out h34.size
                have HSQ : Hid (∀ W, Below w4.heap.size w4 W → Calls Tryz.prog 11 #[xt.v, yt.v] W fun e w' => e = .returned (.bool true) ∧ Below W.heap.size W w') := Lib.hid fun W hW => by
                  have hxm := List.mem_of_getElem? hxt
                  have hym := List.mem_of_getElem? hyt
                  exact same_any xt yt (NewB wr w4) (NewB w1 w2) W ((inL_iff.1 hinQ xt hxm).below (fun _ h => h.2) hW) (((inL_iff.1 HIT.out yt hym).below HPB.out h34).below (fun b h => Nat.lt_trans h.2 hw24) hW) (fun b h => Nat.lt_of_lt_of_le h.2 hW.size) (fun b h => Nat.lt_of_lt_of_le (Nat.lt_trans h.2 hw24) hW.size) (by rw [hxtp, hytp]) (by rw [hxtp]; exact HFT.out t0 (by simp))
                have HRT4 : Hid (RdP (NewB w1 w2) w4 5 tK j (rowT tks)) := Lib.hid (HRT.out.below HPB.out h34)
                rw [hM] at hrowQ
                have HRQ := Lib.hid hrowQ
                obtain ⟨ad, rfl, hPad⟩ : ∃ ad, tK = some ad ∧ NewB w1 w2 ad.block := by
                  obtain ⟨yk, yn, yv, yA, yac, yps, yK, ykc, yks⟩ := yt
                  obtain ⟨q1, q2, q3, _⟩ := kid_at HRT4.out (i := na) hyt hnam
                  exact ⟨q1, q2, q3⟩
                obtain ⟨adk, rfl, hPadk⟩ : ∃ ad, w0K = some ad ∧ NewB wr w4 ad.block := by
                  obtain ⟨yk, yn, yv, yA, yac, yps, yK, ykc, yks⟩ := xt
                  obtain ⟨q1, q2, q3, _⟩ := kid_at hrowQ (i := n1) hxt hn1M
                  exact ⟨q1, q2, q3⟩
                obtain ⟨adw, rfl, hPadw, e4⟩ : ∃ adw, wK = some adw ∧ NewB wr w4 adw.block ∧ w4.cell? { block := (adw.add (0 * 5)).block, off := (adw.add (0 * 5)).off + 4 } = some (.slice (some adk) qks.length w0kc) := by
                  obtain ⟨q1, q2, q3, _, _, _, _, q4⟩ := kid_at hrowW (i := 0) rfl (by simp)
                  exact ⟨q1, q2, q3, q4⟩
                have c4 : w4.cell? ⟨w2.heap.size, 4, none⟩ = some (.slice (some ad) j tkc) := (h34.cell (p := ⟨w2.heap.size, 4, none⟩) HW23.out).trans C4.out
                have C44 := Lib.hid c4
                simp only [Nat.zero_mul] at e4
                have haz : adw.add 0 = adw := by
                  obtain ⟨x, y, z⟩ := adw
                  unfold Addr.add
                  split <;> simp_all
                simp only [haz] at e4
                rw [hM] at e4
                have HE5 := Lib.hid e4
                have HNM := Lib.hid (And.intro hnam hn1M)
                have HML4 := Lib.hid hM
                have HYX := Lib.hid (And.intro hyt hxt)
                have HBA : Hid (ad.block < w4.heap.size ∧ adk.block < w4.heap.size ∧ adw.block < w4.heap.size) := Lib.hid ⟨Nat.lt_trans hPad.2 hw24, hPadk.2, hPadw.2⟩
                have HW24 := Lib.hid hw24
                have c4a := fun o => ((ba (o := o) (Below.refl w4.heap.size w4)).cell (p := ⟨w2.heap.size, 4, none⟩) hw24).trans c4
                simp only [List.length_singleton]
                clear hb4 hZ ha5 hb5 ht2 hk1 hk2 hT4 hpwk hq hrowW hinW hrowQ hinQ hna hn1 hM hnam hn1M hyt hytp hxt hxtp h34 hw24 hPad hPadk hPadw e4 haz c4
                go_wp2_with fail
                clear c4a
                go_loopw [13, 14] (fun s13 s14 wx => ∃ p : Nat, s13 = .int .i64 (atF na p) ∧ s14 = .int .i64 (p : Nat) ∧ p ≤ j ∧ Below (w4.heap.size + 1) (w4.alloc (.cells #[.int .i64 1, .string (ba' []), .string (ba' []), .slice wA 0 wac, .slice (some adw) 1 wkc] 27)) wx) (fun _ s14 _ => j - (intOf s14).toNat)
                case atStart => exact ⟨0, by rw [atF_zero], rfl, Nat.zero_le _, by repeat (with_reducible (first | exact Below.refl _ _ | assumption | apply ba | apply bd | apply bdr))⟩
                case round =>
                  obtain ⟨p, rfl, rfl, hp, hBy⟩ := hrel
                  have c4 := (hBy.cell (p := ⟨w2.heap.size, 4, none⟩) (Nat.lt_succ_of_lt HW24.out)).trans (((ba (Below.refl _ _)).cell (p := ⟨w2.heap.size, 4, none⟩) HW24.out).trans C44.out)
                  have w4c : wr.cell? ⟨w4.heap.size, 4, none⟩ = some (.slice (some adw) 1 wkc) := (hBy.cell (by simp)).trans (by go_simp)
                  have hB4y : Below w4.heap.size w4 wr := (ba (Below.refl _ _)).trans (hBy.mono (by simp))
                  have HBY := Lib.hid hBy
                  have HB4Y := Lib.hid hB4y
                  have HBWY : Hid (Below w.heap.size w wr) := Lib.hid (bt HB4.out hB4y)
                  by_cases hpj : p < j
                  · have g0 : decide ((p : Int) < (j : Int)) = true := decide_eq_true (by omega)
                    have vp : wrap64 ((p : Int) + 1) = (p : Int) + 1 := by have := HM.out; unfold wrap64; omega
                    obtain ⟨y, hy⟩ : ∃ y, tks[p]? = some y := ⟨_, List.getElem?_eq_getElem (by rw [HML.out]; exact hpj)⟩
                    have hkk := HKT.out p y hy
                    have hka := HRT4.out.below (fun b h => Nat.lt_trans h.2 HW24.out) hB4y
                    obtain ⟨yk, yn, yv, yA, yac, yps, yK, ykc, yks⟩ := y
                    obtain ⟨ad', had, _, d0, _⟩ := kid_at hka hy hpj
                    obtain rfl := Option.some.inj had
                    have hyk : (Tr.mk yk yn yv yA yac yps yK ykc yks).pl.k = yk := rfl
                    rw [hyk] at hkk
                    have HPJ := Lib.hid hpj
                    have hpj' : decide (p < j) = true := decide_eq_true hpj
                    clear hka hy hyk hp had hBy hB4y w4c
                    by_cases hpn : p = na
                    · have h2 : yk = 2 := hkk.2 hpn
                      have HPN := Lib.hid hpn
                      clear hkk hpn
                      subst h2
                      go_wp2
                      simp only [vp]
                      exact ⟨⟨p + 1, by rw [HPN.out, atF_hit], by simp, HPJ.out, HBY.out⟩, by simp [intOf]; have := HPJ.out; omega⟩
                    · have hne : ¬ yk = 2 := fun e => hpn (hkk.1 e)
                      have u2 : (yk == 2) = false := by rw [beq_eq_false_iff_ne]; exact hne
                      have u3 : (yk = 2) = False := eq_false hne
                      have HPN := Lib.hid hpn
                      clear hkk hpn
                      go_wp2
                      simp only [vp]
                      exact ⟨⟨p + 1, by rw [atF_miss HPN.out], by simp, HPJ.out, HBY.out⟩, by simp [intOf]; have := HPJ.out; omega⟩
                  · obtain rfl : p = j := by omega
                    have g0 : decide ((p : Int) < (p : Int)) = false := decide_eq_false (by omega)
                    have hat : atF na p = (na : Int) := atF_end HNM.out.1
                    rw [hat]
                    clear hpj hp hat hBy hB4y
                    have e5 := (HB4Y.out.cell (p := { block := adw.block, off := adw.off + 4 }) HBA.out.2.2).trans HE5.out
                    go_wp2_with fail
                    clear e5
                    go_loopw [15, 16] (fun s15 s16 wx => ∃ i4 : Nat, s15 = .int .i64 (nF n1 i4) ∧ s16 = .int .i64 (i4 : Nat) ∧ i4 ≤ M ∧ Below (w4.heap.size + 1) (w4.alloc (.cells #[.int .i64 1, .string (ba' []), .string (ba' []), .slice wA 0 wac, .slice (some adw) 1 wkc] 27)) wx) (fun _ s16 _ => M - (intOf s16).toNat)
                    case atStart => exact ⟨0, by rw [nF_zero], rfl, Nat.zero_le _, HBY.out⟩
                    case round =>
                      obtain ⟨i4, rfl, rfl, hi4, hBz⟩ := hrel
                      clear c4 w4c
                      have c4 := (hBz.cell (p := ⟨w2.heap.size, 4, none⟩) (Nat.lt_succ_of_lt HW24.out)).trans (((ba (Below.refl _ _)).cell (p := ⟨w2.heap.size, 4, none⟩) HW24.out).trans C44.out)
                      have w4c : wr.cell? ⟨w4.heap.size, 4, none⟩ = some (.slice (some adw) 1 wkc) := (hBz.cell (by simp)).trans (by go_simp)
                      have hB4z : Below w4.heap.size w4 wr := (ba (Below.refl _ _)).trans (hBz.mono (by simp))
                      have e5 := (hB4z.cell (p := { block := adw.block, off := adw.off + 4 }) HBA.out.2.2).trans HE5.out
                      have HBZ := Lib.hid hBz
                      have HB4Z := Lib.hid hB4z
                      have HBWZ : Hid (Below w.heap.size w wr) := Lib.hid (bt HB4.out hB4z)
                      by_cases hiM : i4 < M
                      · have g0 : decide ((i4 : Int) < (M : Int)) = true := decide_eq_true (by omega)
                        have hiM' : decide (i4 < M) = true := decide_eq_true hiM
                        have vp : wrap64 ((i4 : Int) + 1) = (i4 : Int) + 1 := by have := HMB.out; unfold wrap64; omega
                        have hrq := HRQ.out.below (fun b h => h.2) hB4z
                        by_cases hin : i4 = n1
                        · have HC := Lib.hid (fun W (h1 : Below wr.heap.size wr W) => HSQ.out W (bt hB4z h1))
                          have hyt := HYX.out.1
                          have hxt := HYX.out.2
                          rw [← hin] at hxt
                          have hkx := (HKQ.out i4 xt hxt).2 hin
                          have hrt := HRT4.out.below (fun b h => Nat.lt_trans h.2 HW24.out) hB4z
                          obtain ⟨xk, xn, xv, xA, xac, xps, xK, xkc, xks⟩ := xt
                          obtain ⟨yk, yn, yv, yA, yac, yps, yK, ykc, yks⟩ := yt
                          have hx2 : (Tr.mk xk xn xv xA xac xps xK xkc xks).pl.k = xk := rfl
                          rw [hx2] at hkx
                          clear hx2
                          obtain ⟨ad', had, hPx, d0, d1, d2, d3, d4⟩ := kid_at hrq hxt hiM
                          obtain rfl := Option.some.inj had
                          obtain ⟨ad'', had'', hPy, f0, f1, f2, f3, f4⟩ := kid_at hrt hyt HNM.out.1
                          obtain rfl := Option.some.inj had''
                          obtain ⟨xp, hxp⟩ : ∃ q, xps.length = q := ⟨_, rfl⟩
                          obtain ⟨xq, hxq⟩ : ∃ q, xks.length = q := ⟨_, rfl⟩
                          obtain ⟨yp, hyp⟩ : ∃ q, yps.length = q := ⟨_, rfl⟩
                          obtain ⟨yq, hyq⟩ : ∃ q, yks.length = q := ⟨_, rfl⟩
                          simp only [Tr.v] at HC
                          rw [hxp, hxq, hyp, hyq] at HC
                          rw [hxp] at d3
                          rw [hxq] at d4
                          rw [hyp] at f3
                          rw [hyq] at f4
                          subst hkx
                          have hbA : (adk.add (i4 * 5)).block < wr.heap.size := by rw [block_of_add]; exact Nat.lt_of_lt_of_le HBA.out.2.1 hB4z.size
                          have hbB : (ad.add (na * 5)).block < wr.heap.size := by rw [block_of_add]; exact Nat.lt_of_lt_of_le HBA.out.1 hB4z.size
                          have hbC : adw.block < wr.heap.size := Nat.lt_of_lt_of_le HBA.out.2.2 hB4z.size
                          have hnf : nF n1 i4 = 0 := by rw [hin]; exact nF_at n1
                          rw [hnf]
                          have HIN := Lib.hid hin
                          have HIM := Lib.hid hiM
                          clear had had'' hPx hPy hrq hrt hyt hxt hxp hxq hyp hyq hin hnf hBz hB4z hi4
                          go_wp2
                          refine Rg34_region w2.heap.size w4.heap.size p i4 na M tkc wkc w0kc ad adw adk 2 xn xv xA xK xp xac xq xkc yk yn yv yA yK yp yac yq ykc wr (Below.refl _ _) c4 w4c (Lib.hid fun w1 h1 => (h1.cell (p := { block := adw.block, off := adw.off + 4 }) hbC).trans e5) (Lib.hid fun w1 h1 => (h1.cell hbA).trans d0) (Lib.hid fun w1 h1 => (h1.cell (p := { block := (adk.add (i4 * 5)).block, off := (adk.add (i4 * 5)).off + 1 }) hbA).trans d1) (Lib.hid fun w1 h1 => (h1.cell (p := { block := (adk.add (i4 * 5)).block, off := (adk.add (i4 * 5)).off + 2 }) hbA).trans d2) (Lib.hid fun w1 h1 => (h1.cell (p := { block := (adk.add (i4 * 5)).block, off := (adk.add (i4 * 5)).off + 3 }) hbA).trans d3) (Lib.hid fun w1 h1 => (h1.cell (p := { block := (adk.add (i4 * 5)).block, off := (adk.add (i4 * 5)).off + 4 }) hbA).trans d4) (Lib.hid fun w1 h1 => (h1.cell hbB).trans f0) (Lib.hid fun w1 h1 => (h1.cell (p := { block := (ad.add (na * 5)).block, off := (ad.add (na * 5)).off + 1 }) hbB).trans f1) (Lib.hid fun w1 h1 => (h1.cell (p := { block := (ad.add (na * 5)).block, off := (ad.add (na * 5)).off + 2 }) hbB).trans f2) (Lib.hid fun w1 h1 => (h1.cell (p := { block := (ad.add (na * 5)).block, off := (ad.add (na * 5)).off + 3 }) hbB).trans f3) (Lib.hid fun w1 h1 => (h1.cell (p := { block := (ad.add (na * 5)).block, off := (ad.add (na * 5)).off + 4 }) hbB).trans f4) hiM hiM' HNM.out.1 (decide_eq_true HNM.out.1) HC ?_
                          intro w9 _ hb9
                          have HB9 : Hid (Below (w4.heap.size + 1) (w4.alloc (.cells #[.int .i64 1, .string (ba' []), .string (ba' []), .slice wA 0 wac, .slice (some adw) 1 wkc] 27)) w9) := Lib.hid (HBZ.out.trans (hb9.mono (by have := HBZ.out.size; simp at this; omega)))
                          clear hbA hbB hbC hb9 d0 d1 d2 d3 d4 f0 f1 f2 f3 f4 c4 w4c e5 hiM hiM' HC
                          go_wp2
                          simp only [vp]
                          exact ⟨⟨i4 + 1, by rw [HIN.out, nF_hit], by simp, HIM.out, HB9.out⟩, by simp [intOf]; have := HIM.out; omega⟩
                        · obtain ⟨y, hy⟩ : ∃ y, qks[i4]? = some y := ⟨_, List.getElem?_eq_getElem (by rw [HML4.out]; exact hiM)⟩
                          have hkk := HKQ.out i4 y hy
                          obtain ⟨yk, yn, yv, yA, yac, yps, yK, ykc, yks⟩ := y
                          have hyk : (Tr.mk yk yn yv yA yac yps yK ykc yks).pl.k = yk := rfl
                          rw [hyk] at hkk
                          obtain ⟨ad', had, _, d0, _⟩ := kid_at hrq hy hiM
                          obtain rfl := Option.some.inj had
                          have hne : ¬ yk = 2 := fun e => hin (hkk.1 e)
                          have u2 : (yk == 2) = false := by rw [beq_eq_false_iff_ne]; exact hne
                          have u3 : (yk = 2) = False := eq_false hne
                          have HIN := Lib.hid hin
                          have HIM := Lib.hid hiM
                          clear had hy hyk hkk hin hrq hBz hB4z hi4
                          go_wp2
                          simp only [vp]
                          exact ⟨⟨i4 + 1, by rw [nF_miss HIN.out], by simp, HIM.out, HBZ.out⟩, by simp [intOf]; have := HIM.out; omega⟩
                      · obtain rfl : i4 = M := by omega
                        have g0 : decide ((i4 : Int) < (i4 : Int)) = false := decide_eq_false (by omega)
                        have hnf : nF n1 i4 = 1 := nF_end HNM.out.2
                        rw [hnf]
                        clear hiM hi4 hnf hBz hB4z
                        go_wp2
                        go_ret
                        exact ⟨rfl, HBWZ.out⟩
end Go.Proofs.YtpdaldpaceolnaaGreatDoor
