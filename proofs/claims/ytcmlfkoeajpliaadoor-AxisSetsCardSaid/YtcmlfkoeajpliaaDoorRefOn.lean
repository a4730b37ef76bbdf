/- The reference asks whether a node is on an axis of another. No condition beyond what the theorems state. -/
import Derived.Test.YtcmlfkoeajpliaaDoorAxWake
import Derived.Test.YtcmlfkoeajpliaaDoorAxSteps
namespace Go.Proofs.YtcmlfkoeajpliaaDoor
open Go.RowKit Go.Lib
set_option maxRecDepth 100000
set_option maxHeartbeats 8000000
def Tr.nm : Tr → List UInt8
  | .mk _ n _ _ _ _ _ _ _ => n
def Tr.kk : Tr → Int
  | .mk k _ _ _ _ _ _ _ _ => k
def prjN (x : Tr × Nat) : Int × List UInt8 × Nat := (x.1.kk, x.1.nm, x.2)
def prjE (x : En) : Int × List UInt8 × Nat := (x.k, x.n, x.p)
theorem prj_pairs : ∀ (ps : List (List UInt8 × List UInt8)) (b own : Nat), (ps.map fun q => (attrT q, own)).map prjN = (layP ps b own).map prjE
  | [], _, _ => rfl
  | p :: ps, b, own => by
    rw [layP, List.map_cons, List.map_cons, List.map_cons, prj_pairs ps (b + 1) own]
    rfl
theorem prj_nodes : ∀ (t : Tr) (b p : Nat), (t.nodes b p).map prjN = (t.pl.lay b p).map prjE := by
  intro t
  induction t using Tr.ind with
  | h k n v A ac ps K kc ks ih =>
    intro b p
    have aux : ∀ (L : List Tr), (∀ t ∈ L, ∀ b p : Nat, (t.nodes b p).map prjN = (t.pl.lay b p).map prjE) → ∀ b p : Nat, (nodesL L b p).map prjN = (layL (plL L) b p).map prjE := by
      intro L
      induction L with
      | nil => intro _ b p; rw [nodesL, plL, layL]; rfl
      | cons a L ihL =>
        intro h b p
        rw [nodesL, plL, layL, List.map_append, List.map_append, h a (.head _), ihL (fun t ht => h t (.tail _ ht))]
    rw [Tr.nodes, Tr.pl, PT.lay, List.map_cons, List.map_cons, List.map_append, List.map_append, prj_pairs ps (b + 1) (b + 1), aux ks ih]
    rfl
theorem prj_nodesL : ∀ (L : List Tr) (b p : Nat), (nodesL L b p).map prjN = (layL (plL L) b p).map prjE
  | [], _, _ => by rw [nodesL, plL, layL]; rfl
  | a :: L, b, p => by rw [nodesL, plL, layL, List.map_append, List.map_append, prj_nodes, prj_nodesL L]
theorem rowN_at : ∀ (M : List (Tr × Nat)) (i : Nat) (x : Tr × Nat) (o : Nat) (u : Value), M[i]? = some x → (ndC x)[o]? = some u → o < 6 → (rowN M)[i * 6 + o]? = some u
  | [], i, r, o, u, h, _, _ => by simp at h
  | a :: M, 0, r, o, u, h, hu, ho => by
    have e : rowN (a :: M) = ndC a ++ rowN M := rfl
    have hl := ndC_len a
    simp at h; subst h
    rw [e, Nat.zero_mul, Nat.zero_add, List.getElem?_append_left (by omega)]
    exact hu
  | a :: M, i + 1, r, o, u, h, hu, ho => by
    have h' : M[i]? = some r := by simpa using h
    have e : rowN (a :: M) = ndC a ++ rowN M := rfl
    have hl := ndC_len a
    rw [e, List.getElem?_append_right (by omega), hl, show (i + 1) * 6 + o - 6 = i * 6 + o by omega]
    exact rowN_at M i r o u h' hu ho
/-- The list of nodes in memory: kinds, names, parents. -/
def ListAt (w : World) (Al : Option Addr) (L : List En) : Prop :=
  ∀ i x, L[i]? = some x → ∃ ad, Al = some ad ∧ ad.block < w.heap.size ∧ w.cell? (ad.add (i * 6)) = some (.int .i64 x.k) ∧ w.cell? ⟨(ad.add (i * 6)).block, (ad.add (i * 6)).off + 1, none⟩ = some (.string (ba' x.n)) ∧ w.cell? ⟨(ad.add (i * 6)).block, (ad.add (i * 6)).off + 5, none⟩ = some (.int .i64 (x.p : Int))
theorem ListAt.below {w w' : World} {Al : Option Addr} {L : List En} (h : ListAt w Al L) (hb : Below w.heap.size w w') : ListAt w' Al L := fun i x hx => by
  obtain ⟨ad, e, hl, h1, h2, h3⟩ := h i x hx
  have hbl : (ad.add (i * 6)).block < w.heap.size := by rw [block_of_add]; exact hl
  exact ⟨ad, e, Nat.lt_of_lt_of_le hl hb.size, (hb.cell hbl).trans h1, (hb.cell (show (⟨(ad.add (i * 6)).block, (ad.add (i * 6)).off + 1, none⟩ : Addr).block < w.heap.size from hbl)).trans h2, (hb.cell (show (⟨(ad.add (i * 6)).block, (ad.add (i * 6)).off + 5, none⟩ : Addr).block < w.heap.size from hbl)).trans h3⟩
theorem listAt_of {w : World} {base n c : Nat} {Al : Option Addr} {us : List Tr} (h : w.ownsRow base 83 6 (.slice Al n c) n (rowN (nodesL us 0 0))) : ListAt w Al (layL (plL us) 0 0) := by
  intro i x hx
  have hp : ((nodesL us 0 0).map prjN)[i]? = some (prjE x) := by rw [prj_nodesL, List.getElem?_map, hx]; rfl
  rw [List.getElem?_map] at hp
  obtain ⟨y, hy, e⟩ := Option.map_eq_some_iff.1 hp
  rcases h.2 with ⟨h0, h1⟩ | ⟨g, cap, cur, h0, hb, hh, hc, hm, hs, ht⟩
  · have hlen := h.1
    subst h1
    have : nodesL us 0 0 ≠ [] := fun e => by rw [e] at hy; simp at hy
    exfalso
    cases hq : nodesL us 0 0 with
    | nil => exact this hq
    | cons a M =>
      rw [hq] at hlen
      have : (rowN (a :: M)).length = (ndC a).length + (rowN M).length := by show (ndC a ++ rowN M).length = _; rw [List.length_append]
      rw [ndC_len] at this
      omega
  · injection h0 with e1 e2 e3
    subst e1
    subst e3
    have hcell : ∀ o u, (ndC y)[o]? = some u → o < 6 → w.cell? ⟨g, i * 6 + o, none⟩ = some u := by
      intro o u hu ho
      have h1 := rowN_at (nodesL us 0 0) i y o u hy hu ho
      rw [← ht, List.getElem?_take] at h1
      split at h1
      · unfold World.cell?
        rw [hh]
        simpa using h1
      · cases h1
    obtain ⟨⟨k, n', v, A, ac, ps, K, kc, ks⟩, p⟩ := y
    have e' : (k, n', p) = (x.k, x.n, x.p) := e
    injection e' with ek e''
    injection e'' with en ep
    subst ek en ep
    refine ⟨⟨g, 0, none⟩, rfl, (Array.getElem?_eq_some_iff.1 hh).1, ?_, ?_, ?_⟩
    · rw [addj]; exact hcell 0 _ rfl (by omega)
    · rw [addj]; exact hcell 1 _ rfl (by omega)
    · rw [addj]; exact hcell 5 _ rfl (by omega)
section
variable {N : Nat} {kd : Nat → Int} {pr en : Nat → Nat}
/-- To be an ancestor is to be the parent, or one of its ancestors. -/
theorem anc_up (h : Ord N kd pr en) {a m : Nat} (ha : 1 ≤ a) (hm : 1 ≤ m) (hmN : m ≤ N) : (a < m ∧ m ≤ en a) ↔ (pr m ≠ 0 ∧ (a = pr m ∨ (a < pr m ∧ pr m ≤ en a))) := by
  have hpl := h.plt m hm hmN
  constructor
  · rintro ⟨h1, h2⟩
    have := (h.nest a m ha h1 hmN).1.1 h2
    omega
  · rintro ⟨h0, h1 | ⟨h1, h2⟩⟩
    · subst h1
      have he := h.enr (pr m) (by omega) (by omega)
      exact ⟨hpl, (h.nest (pr m) m (by omega) hpl hmN).1.2 ⟨Nat.le_refl _, he.1⟩⟩
    · exact ⟨by omega, (h.nest a m ha (by omega) hmN).1.2 ⟨by omega, h2⟩⟩
end
end Go.Proofs.YtcmlfkoeajpliaaDoor
namespace Go.Proofs.YtcmlfkoeajpliaaDoor
open Go.RowKit Go.Lib
set_option maxRecDepth 100000
set_option maxHeartbeats 8000000
theorem listAt_num {w : World} {Al : Option Addr} {L : List En} (h : ListAt w Al L) {n : Nat} (h1 : 1 ≤ n) (h2 : n ≤ L.length) :
    ∃ ad, Al = some ad ∧ ad.block < w.heap.size ∧ w.cell? (ad.add ((n - 1) * 6)) = some (.int .i64 (kdN L n)) ∧ w.cell? ⟨(ad.add ((n - 1) * 6)).block, (ad.add ((n - 1) * 6)).off + 5, none⟩ = some (.int .i64 (prN L n : Int)) := by
  obtain ⟨x, hx, e1, e2, _⟩ := told_in h1 h2
  obtain ⟨ad, e, hl, c1, _, c3⟩ := h _ x hx
  exact ⟨ad, e, hl, by rw [e1]; exact c1, by rw [e2]; exact c3⟩
theorem kidRef (Al : Option Addr) (cl : Nat) (L : List En) (n : Nat) (w : World) (hA : ListAt w Al L) (h1 : 1 ≤ n) (h2 : n ≤ L.length) (hL : L.length ≤ 1048576) :
    Calls Tryd.prog 85 #[.slice Al L.length cl, .int .i64 (n : Int)] w fun e w' => e = .returned (.bool (decide (kdN L n ≠ 3))) ∧ Below w.heap.size w w' := by
  obtain ⟨ad, rfl, hl, c0, _⟩ := listAt_num hA h1 h2
  obtain ⟨k, hk⟩ : ∃ k, kdN L n = k := ⟨_, rfl⟩
  obtain ⟨N, hN⟩ : ∃ N, L.length = N := ⟨_, rfl⟩
  obtain ⟨i, rfl⟩ : ∃ i, n = i + 1 := ⟨n - 1, by omega⟩
  rw [hk] at c0 ⊢
  rw [hN] at h2 hL ⊢
  rw [show i + 1 - 1 = i by omega] at c0
  have e : ((i + 1 : Nat) : Int) = (i : Int) + 1 := by omega
  rw [e]
  clear hA hk hN e
  go_enter Tryd.func85, Tryd.ntmps85
  go_wp2
  go_ret
  refine ⟨?_, Below.refl _ _⟩
  by_cases h3 : k = 3
  · subst h3; rfl
  · simp [h3]
theorem aboveRef (Al : Option Addr) (cl : Nat) (L : List En) (a n : Nat) (w : World) (hA : ListAt w Al L) (hO : Ord L.length (kdN L) (prN L) (enN L)) (ha : 1 ≤ a) (h1 : 1 ≤ n) (h2 : n ≤ L.length) (hL : L.length ≤ 1048576) :
    Calls Tryd.prog 86 #[.slice Al L.length cl, .int .i64 (a : Int), .int .i64 (n : Int)] w fun e w' => e = .returned (.bool (decide (a < n ∧ n ≤ enN L a))) ∧ Below w.heap.size w w' := by
  have HC : Hid (∀ (w1 : World) (m : Nat), Below w.heap.size w w1 → 1 ≤ m → m ≤ L.length → ∃ ad, Al = some ad ∧ w1.cell? ⟨(ad.add ((m - 1) * 6)).block, (ad.add ((m - 1) * 6)).off + 5, none⟩ = some (.int .i64 (prN L m : Int))) := Lib.hid fun w1 m hb m1 m2 => by
    obtain ⟨ad, e, _, _, c⟩ := listAt_num (hA.below hb) m1 m2
    exact ⟨ad, e, c⟩
  have HU : Hid (∀ m, 1 ≤ m → m ≤ L.length → ((a < m ∧ m ≤ enN L a) ↔ (prN L m ≠ 0 ∧ (a = prN L m ∨ (a < prN L m ∧ prN L m ≤ enN L a)))) ∧ prN L m < m) := Lib.hid fun m m1 m2 => ⟨anc_up hO ha m1 m2, hO.plt m m1 m2⟩
  obtain ⟨r, hr⟩ : ∃ r, decide (a < n ∧ n ≤ enN L a) = r := ⟨_, rfl⟩
  obtain ⟨N, hN⟩ : ∃ N, L.length = N := ⟨_, rfl⟩
  obtain ⟨ad, hAd, c0⟩ := HC.out w n (Below.refl _ _) h1 h2
  subst hAd
  have hu := HU.out n h1 h2
  obtain ⟨p, hp⟩ : ∃ p, prN L n = p := ⟨_, rfl⟩
  rw [hp] at c0 hu
  obtain ⟨i, rfl⟩ : ∃ i, n = i + 1 := ⟨n - 1, by omega⟩
  have HR : Hid (r = true ↔ (p ≠ 0 ∧ (a = p ∨ (a < p ∧ p ≤ enN L a)))) := Lib.hid (by rw [← hr, ← hu.1]; exact decide_eq_true_iff)
  have hpn := hu.2
  rw [hr]
  rw [hN] at h2 hL HC HU ⊢
  rw [show i + 1 - 1 = i by omega] at c0
  have e : ((i + 1 : Nat) : Int) = (i : Int) + 1 := by omega
  rw [e]
  clear hA hN e hO hp hu hr
  go_enter Tryd.func86, Tryd.ntmps86
  go_wp2
  go_loopw [7] (fun s7 wx => ∃ q : Nat, s7 = .int .i64 (q : Int) ∧ q ≤ N ∧ Hid (r = true ↔ (q ≠ 0 ∧ (a = q ∨ (a < q ∧ q ≤ enN L a)))) ∧ Below w.heap.size w wx) (fun s7 _ => (intOf s7).toNat)
  case atStart => exact ⟨p, rfl, by omega, HR, Below.refl _ _⟩
  case round =>
    obtain ⟨q, rfl, hq, hr, hB⟩ := hrel
    by_cases h0 : q = 0
    · subst h0
      obtain rfl : r = false := by
        cases r with
        | false => rfl
        | true => exact absurd rfl ((hr.out.1 rfl).1)
      simp only [show ((0 : Nat) : Int) = 0 from rfl]
      go_wp2
      go_ret
      exact ⟨rfl, hB⟩
    · have g0 : ((q : Int) != 0) = true := by simpa using (by omega : ¬ (q : Int) = 0)
      have g0' : (q != 0) = true := by simpa using h0
      by_cases h3 : q = a
      · have g1 : ((q : Int) == (a : Int)) = true := by rw [h3]; simp
        have g1' : (q == a) = true := by rw [h3]; simp
        obtain rfl : r = true := hr.out.2 ⟨h0, .inl h3.symm⟩
        clear h3
        go_wp2
        go_ret
        exact ⟨rfl, hB⟩
      · have g1 : ((q : Int) == (a : Int)) = false := by simpa using (by omega : ¬ (q : Int) = (a : Int))
        have g1' : (q == a) = false := by simpa using h3
        obtain ⟨ad', hAd', c1⟩ := HC.out wr q hB (by omega) hq
        cases hAd'
        have hu := HU.out q (by omega) hq
        obtain ⟨p', hp'⟩ : ∃ p', prN L q = p' := ⟨_, rfl⟩
        rw [hp'] at c1 hu
        have hpl := hu.2
        have HR' : Hid (r = true ↔ (p' ≠ 0 ∧ (a = p' ∨ (a < p' ∧ p' ≤ enN L a)))) := Lib.hid (by
          rw [← hu.1, hr.out]
          constructor
          · rintro ⟨_, h | h⟩
            · exact absurd h.symm h3
            · exact h
          · intro h; exact ⟨h0, .inr h⟩)
        obtain ⟨j, rfl⟩ : ∃ j, q = j + 1 := ⟨q - 1, by omega⟩
        rw [show j + 1 - 1 = j by omega] at c1
        have e : ((j + 1 : Nat) : Int) = (j : Int) + 1 := by omega
        simp only [e] at g0 g1 ⊢
        clear hp' hu hr h3
        go_wp2
        go_roundw
        case rel => exact ⟨p', rfl, by omega, HR', hB⟩
        case measure => simp [intOf]; omega
end Go.Proofs.YtcmlfkoeajpliaaDoor
namespace Go.Proofs.YtcmlfkoeajpliaaDoor
open Go.RowKit Go.Lib
set_option maxRecDepth 100000
set_option maxHeartbeats 16000000
def OnAI (w0 : World) (ad : Addr) (N cl i j _p q : Nat) (_bm : Bool) (c2 c4 c5 c6 c7 c8 c42 c43 c44 c45 c46 c47 c48 c49 c50 c51 c52 c53 c54 c55 c56 c57 c58 c59 c60 c61 c62 c63 c64 c65 c66 c67 c68 c69 c70 c71 c72 c73 c74 c75 c76 c77 c78 c79 c80 c81 c82 c83 c84 c85 c86 c87 c88 c89 c90 c91 c92 c93 c94 c95 c96 c97 c98 c99 c100 c101 c102 c103 c104 c105 c106 c107 c108 c109 c110 c111 c112 c113 c114 c115 c116 c117 c118 c119 c120 c121 c122 c123 c124 c125 c126 c127 c128 c129 c130 c131 c132 c133 c134 c135 c136 c137 c138 c139 c140 c141 c142 c143 c144 c145 c146 c147 c148 : Value) (listed : Array Bool) (A : Act) (w : World) : Prop := ∃ (s9 s10 s11 s12 s13 s14 s15 s16 s17 s18 s19 s20 s21 s22 s23 s24 s25 s26 s27 s28 s29 s30 s31 s32 s33 s34 s35 s36 s37 s38 s39 s40 s41 : Value), A = { tmps := #[.slice (some ad) N cl, .int .i64 ((i : Int) + 1), c2, .int .i64 ((j : Int) + 1), c4, c5, c6, c7, c8, s9, s10, s11, s12, s13, s14, s15, s16, s17, s18, s19, s20, s21, s22, s23, s24, s25, s26, s27, s28, s29, s30, s31, s32, s33, s34, s35, s36, s37, s38, s39, s40, s41, c42, c43, c44, c45, c46, c47, c48, c49, c50, c51, c52, c53, c54, c55, c56, c57, c58, c59, c60, c61, c62, c63, c64, c65, c66, c67, c68, c69, c70, c71, c72, c73, c74, c75, c76, c77, c78, c79, c80, c81, c82, c83, c84, c85, c86, c87, c88, c89, c90, c91, c92, c93, c94, c95, c96, c97, c98, c99, c100, c101, c102, c103, c104, c105, c106, c107, c108, c109, c110, c111, c112, c113, c114, c115, c116, c117, c118, c119, c120, c121, c122, c123, c124, c125, c126, c127, c128, c129, c130, c131, c132, c133, c134, c135, c136, c137, c138, c139, c140, c141, c142, c143, c144, c145, c146, c147, c148], defers := [] } ∧
  (listed.getD 0 false = true → s10 = .slice (some ad) N cl) ∧
  (listed.getD 1 false = true → s11 = .int .i64 ((i : Int) + 1)) ∧
  (listed.getD 2 false = true → s12 = .int .i64 (i : Int)) ∧
  (listed.getD 3 false = true → s13 = .pointer (some (ad.add (i * 6)))) ∧
  (listed.getD 4 false = true → s14 = .pointer (some ⟨(ad.add (i * 6)).block, (ad.add (i * 6)).off + 5, none⟩)) ∧
  (listed.getD 5 false = true → s15 = .int .i64 0) ∧
  (listed.getD 6 false = true → s16 = .bool false) ∧
  (listed.getD 7 false = true → s17 = .bool false) ∧
  (listed.getD 8 false = true → s18 = undef) ∧
  (listed.getD 9 false = true → s19 = undef) ∧
  (listed.getD 10 false = true → s20 = undef) ∧
  (listed.getD 11 false = true → s21 = undef) ∧
  (listed.getD 12 false = true → s22 = undef) ∧
  (listed.getD 13 false = true → s23 = undef) ∧
  (listed.getD 14 false = true → s24 = undef) ∧
  (listed.getD 15 false = true → s25 = undef) ∧
  (listed.getD 16 false = true → s26 = undef) ∧
  (listed.getD 17 false = true → s27 = undef) ∧
  (listed.getD 18 false = true → s28 = undef) ∧
  (listed.getD 19 false = true → s29 = undef) ∧
  (listed.getD 20 false = true → s30 = undef) ∧
  (listed.getD 21 false = true → s31 = .bool false) ∧
  (listed.getD 22 false = true → s32 = .bool false) ∧
  (listed.getD 23 false = true → s33 = undef) ∧
  (listed.getD 24 false = true → s34 = undef) ∧
  (listed.getD 25 false = true → s35 = undef) ∧
  (listed.getD 26 false = true → s36 = .bool false) ∧
  (listed.getD 27 false = true → s37 = .bool false) ∧
  (listed.getD 28 false = true → s38 = undef) ∧
  (listed.getD 29 false = true → s39 = undef) ∧
  (listed.getD 30 false = true → s40 = undef) ∧
  (listed.getD 31 false = true → s41 = .bool false) ∧
  (listed.getD 32 false = true → s9 = .bool false) ∧
  Below w0.heap.size w0 w ∧
  w.cell? ⟨(ad.add (i * 6)).block, (ad.add (i * 6)).off + 5, none⟩ = some (.int .i64 0) ∧
  w.cell? ⟨(ad.add (j * 6)).block, (ad.add (j * 6)).off + 5, none⟩ = some (.int .i64 (q : Int))
set_option maxRecDepth 100000 in
set_option maxHeartbeats 16000000 in
theorem OnA_region (ad : Addr) (N cl i j p q : Nat) (bm : Bool) (x9 x10 x11 x12 x13 x14 x15 x16 x17 x18 x19 x20 x21 x22 x23 x24 x25 x26 x27 x28 x29 x30 x31 x32 x33 x34 x35 x36 x37 x38 x39 x40 x41 : Value) (c2 c4 c5 c6 c7 c8 c42 c43 c44 c45 c46 c47 c48 c49 c50 c51 c52 c53 c54 c55 c56 c57 c58 c59 c60 c61 c62 c63 c64 c65 c66 c67 c68 c69 c70 c71 c72 c73 c74 c75 c76 c77 c78 c79 c80 c81 c82 c83 c84 c85 c86 c87 c88 c89 c90 c91 c92 c93 c94 c95 c96 c97 c98 c99 c100 c101 c102 c103 c104 c105 c106 c107 c108 c109 c110 c111 c112 c113 c114 c115 c116 c117 c118 c119 c120 c121 c122 c123 c124 c125 c126 c127 c128 c129 c130 c131 c132 c133 c134 c135 c136 c137 c138 c139 c140 c141 c142 c143 c144 c145 c146 c147 c148 : Value) (w0 W : World) (Q : Exit → Act → World → Prop) (hb0 : Below w0.heap.size w0 W) (C0 : W.cell? ⟨(ad.add (i * 6)).block, (ad.add (i * 6)).off + 5, none⟩ = some (.int .i64 0)) (C1 : W.cell? ⟨(ad.add (j * 6)).block, (ad.add (j * 6)).off + 5, none⟩ = some (.int .i64 (q : Int))) (hi : i < N) (_hj : j < N) (_hN : N ≤ 1048576) (wi : IntKind.i64.wrap (i : Int) = (i : Int)) (_wj : IntKind.i64.wrap (j : Int) = (j : Int)) 
    (hQ : ∀ (w : World) , (True) → Below w0.heap.size w0 w → Q .normal { tmps := #[.slice (some ad) N cl, .int .i64 ((i : Int) + 1), c2, .int .i64 ((j : Int) + 1), c4, c5, c6, c7, c8, .bool false, .slice (some ad) N cl, .int .i64 ((i : Int) + 1), .int .i64 (i : Int), .pointer (some (ad.add (i * 6))), .pointer (some ⟨(ad.add (i * 6)).block, (ad.add (i * 6)).off + 5, none⟩), .int .i64 0, .bool false, .bool false, undef, undef, undef, undef, undef, undef, undef, undef, undef, undef, undef, undef, undef, .bool false, .bool false, undef, undef, undef, .bool false, .bool false, undef, undef, undef, .bool false, c42, c43, c44, c45, c46, c47, c48, c49, c50, c51, c52, c53, c54, c55, c56, c57, c58, c59, c60, c61, c62, c63, c64, c65, c66, c67, c68, c69, c70, c71, c72, c73, c74, c75, c76, c77, c78, c79, c80, c81, c82, c83, c84, c85, c86, c87, c88, c89, c90, c91, c92, c93, c94, c95, c96, c97, c98, c99, c100, c101, c102, c103, c104, c105, c106, c107, c108, c109, c110, c111, c112, c113, c114, c115, c116, c117, c118, c119, c120, c121, c122, c123, c124, c125, c126, c127, c128, c129, c130, c131, c132, c133, c134, c135, c136, c137, c138, c139, c140, c141, c142, c143, c144, c145, c146, c147, c148], defers := [] } w) :
    Code.wp Tryd.prog ((Tryd.f64.body.bind (regionOf 1)).getD .skip) Q { tmps := #[.slice (some ad) N cl, .int .i64 ((i : Int) + 1), c2, .int .i64 ((j : Int) + 1), c4, c5, c6, c7, c8, x9, x10, x11, x12, x13, x14, x15, x16, x17, x18, x19, x20, x21, x22, x23, x24, x25, x26, x27, x28, x29, x30, x31, x32, x33, x34, x35, x36, x37, x38, x39, x40, x41, c42, c43, c44, c45, c46, c47, c48, c49, c50, c51, c52, c53, c54, c55, c56, c57, c58, c59, c60, c61, c62, c63, c64, c65, c66, c67, c68, c69, c70, c71, c72, c73, c74, c75, c76, c77, c78, c79, c80, c81, c82, c83, c84, c85, c86, c87, c88, c89, c90, c91, c92, c93, c94, c95, c96, c97, c98, c99, c100, c101, c102, c103, c104, c105, c106, c107, c108, c109, c110, c111, c112, c113, c114, c115, c116, c117, c118, c119, c120, c121, c122, c123, c124, c125, c126, c127, c128, c129, c130, c131, c132, c133, c134, c135, c136, c137, c138, c139, c140, c141, c142, c143, c144, c145, c146, c147, c148], defers := [] } W := by
  conv => arg 2; whnf
  refine wp_region_inv (by kernel_rfl) (by kernel_rfl) (OnAI w0 ad N cl i j p q bm c2 c4 c5 c6 c7 c8 c42 c43 c44 c45 c46 c47 c48 c49 c50 c51 c52 c53 c54 c55 c56 c57 c58 c59 c60 c61 c62 c63 c64 c65 c66 c67 c68 c69 c70 c71 c72 c73 c74 c75 c76 c77 c78 c79 c80 c81 c82 c83 c84 c85 c86 c87 c88 c89 c90 c91 c92 c93 c94 c95 c96 c97 c98 c99 c100 c101 c102 c103 c104 c105 c106 c107 c108 c109 c110 c111 c112 c113 c114 c115 c116 c117 c118 c119 c120 c121 c122 c123 c124 c125 c126 c127 c128 c129 c130 c131 c132 c133 c134 c135 c136 c137 c138 c139 c140 c141 c142 c143 c144 c145 c146 c147 c148) ?_ ?_ ?_
  · exact ⟨_, _, _, _, _, _, _, _, _, _, _, _, _, _, _, _, _, _, _, _, _, _, _, _, _, _, _, _, _, _, _, _, _, rfl, fun h => absurd h l0, fun h => absurd h l0, fun h => absurd h l0, fun h => absurd h l0, fun h => absurd h l0, fun h => absurd h l0, fun h => absurd h l0, fun h => absurd h l0, fun h => absurd h l0, fun h => absurd h l0, fun h => absurd h l0, fun h => absurd h l0, fun h => absurd h l0, fun h => absurd h l0, fun h => absurd h l0, fun h => absurd h l0, fun h => absurd h l0, fun h => absurd h l0, fun h => absurd h l0, fun h => absurd h l0, fun h => absurd h l0, fun h => absurd h l0, fun h => absurd h l0, fun h => absurd h l0, fun h => absurd h l0, fun h => absurd h l0, fun h => absurd h l0, fun h => absurd h l0, fun h => absurd h l0, fun h => absurd h l0, fun h => absurd h l0, fun h => absurd h l0, fun h => absurd h l0, bdr hb0, C0, C1⟩
  · intro i o listed A w hi ho hd hn hI
    unfold OnAI at hI
    obtain ⟨s9, hI⟩ := hI
    obtain ⟨s10, hI⟩ := hI
    obtain ⟨s11, hI⟩ := hI
    obtain ⟨s12, hI⟩ := hI
    obtain ⟨s13, hI⟩ := hI
    obtain ⟨s14, hI⟩ := hI
    obtain ⟨s15, hI⟩ := hI
    obtain ⟨s16, hI⟩ := hI
    obtain ⟨s17, hI⟩ := hI
    obtain ⟨s18, hI⟩ := hI
    obtain ⟨s19, hI⟩ := hI
    obtain ⟨s20, hI⟩ := hI
    obtain ⟨s21, hI⟩ := hI
    obtain ⟨s22, hI⟩ := hI
    obtain ⟨s23, hI⟩ := hI
    obtain ⟨s24, hI⟩ := hI
    obtain ⟨s25, hI⟩ := hI
    obtain ⟨s26, hI⟩ := hI
    obtain ⟨s27, hI⟩ := hI
    obtain ⟨s28, hI⟩ := hI
    obtain ⟨s29, hI⟩ := hI
    obtain ⟨s30, hI⟩ := hI
    obtain ⟨s31, hI⟩ := hI
    obtain ⟨s32, hI⟩ := hI
    obtain ⟨s33, hI⟩ := hI
    obtain ⟨s34, hI⟩ := hI
    obtain ⟨s35, hI⟩ := hI
    obtain ⟨s36, hI⟩ := hI
    obtain ⟨s37, hI⟩ := hI
    obtain ⟨s38, hI⟩ := hI
    obtain ⟨s39, hI⟩ := hI
    obtain ⟨s40, hI⟩ := hI
    obtain ⟨s41, hI⟩ := hI
    obtain ⟨rfl, hI⟩ := hI
    obtain ⟨F0, hI⟩ := hI
    obtain ⟨F1, hI⟩ := hI
    obtain ⟨F2, hI⟩ := hI
    obtain ⟨F3, hI⟩ := hI
    obtain ⟨F4, hI⟩ := hI
    obtain ⟨F5, hI⟩ := hI
    obtain ⟨F6, hI⟩ := hI
    obtain ⟨F7, hI⟩ := hI
    obtain ⟨F8, hI⟩ := hI
    obtain ⟨F9, hI⟩ := hI
    obtain ⟨F10, hI⟩ := hI
    obtain ⟨F11, hI⟩ := hI
    obtain ⟨F12, hI⟩ := hI
    obtain ⟨F13, hI⟩ := hI
    obtain ⟨F14, hI⟩ := hI
    obtain ⟨F15, hI⟩ := hI
    obtain ⟨F16, hI⟩ := hI
    obtain ⟨F17, hI⟩ := hI
    obtain ⟨F18, hI⟩ := hI
    obtain ⟨F19, hI⟩ := hI
    obtain ⟨F20, hI⟩ := hI
    obtain ⟨F21, hI⟩ := hI
    obtain ⟨F22, hI⟩ := hI
    obtain ⟨F23, hI⟩ := hI
    obtain ⟨F24, hI⟩ := hI
    obtain ⟨F25, hI⟩ := hI
    obtain ⟨F26, hI⟩ := hI
    obtain ⟨F27, hI⟩ := hI
    obtain ⟨F28, hI⟩ := hI
    obtain ⟨F29, hI⟩ := hI
    obtain ⟨F30, hI⟩ := hI
    obtain ⟨F31, hI⟩ := hI
    obtain ⟨F32, hI⟩ := hI
    obtain ⟨F33, hI⟩ := hI
    obtain ⟨F34, hI⟩ := hI
    have F35 := hI; clear hI
    have hi' : i < 33 := hi
    clear hi
    rcases (by omega : i = 0 ∨ i = 1 ∨ i = 2 ∨ i = 3 ∨ i = 4 ∨ i = 5 ∨ i = 6 ∨ i = 7 ∨ i = 8 ∨ i = 9 ∨ i = 10 ∨ i = 11 ∨ i = 12 ∨ i = 13 ∨ i = 14 ∨ i = 15 ∨ i = 16 ∨ i = 17 ∨ i = 18 ∨ i = 19 ∨ i = 20 ∨ i = 21 ∨ i = 22 ∨ i = 23 ∨ i = 24 ∨ i = 25 ∨ i = 26 ∨ i = 27 ∨ i = 28 ∨ i = 29 ∨ i = 30 ∨ i = 31 ∨ i = 32) with rfl | rfl | rfl | rfl | rfl | rfl | rfl | rfl | rfl | rfl | rfl | rfl | rfl | rfl | rfl | rfl | rfl | rfl | rfl | rfl | rfl | rfl | rfl | rfl | rfl | rfl | rfl | rfl | rfl | rfl | rfl | rfl | rfl
    · simp only [List.getElem?_toArray, List.getElem?_cons_zero, Option.some.injEq] at ho
      subst ho
      refine wpOp_step rfl (fun K hK => ?_)
      go_simp
      refine hK _ _ ?_
      exact ⟨_, _, _, _, _, _, _, _, _, _, _, _, _, _, _, _, _, _, _, _, _, _, _, _, _, _, _, _, _, _, _, _, _, rfl, fun _ => rfl, lk F1, lk F2, lk F3, lk F4, lk F5, lk F6, lk F7, lk F8, lk F9, lk F10, lk F11, lk F12, lk F13, lk F14, lk F15, lk F16, lk F17, lk F18, lk F19, lk F20, lk F21, lk F22, lk F23, lk F24, lk F25, lk F26, lk F27, lk F28, lk F29, lk F30, lk F31, lk F32, F33, F34, F35⟩
    · simp only [List.getElem?_toArray, List.getElem?_cons_zero, List.getElem?_cons_succ, Option.some.injEq] at ho
      subst ho
      refine wpOp_step rfl (fun K hK => ?_)
      go_simp
      refine hK _ _ ?_
      exact ⟨_, _, _, _, _, _, _, _, _, _, _, _, _, _, _, _, _, _, _, _, _, _, _, _, _, _, _, _, _, _, _, _, _, rfl, lk F0, fun _ => rfl, lk F2, lk F3, lk F4, lk F5, lk F6, lk F7, lk F8, lk F9, lk F10, lk F11, lk F12, lk F13, lk F14, lk F15, lk F16, lk F17, lk F18, lk F19, lk F20, lk F21, lk F22, lk F23, lk F24, lk F25, lk F26, lk F27, lk F28, lk F29, lk F30, lk F31, lk F32, F33, F34, F35⟩
    · simp only [List.getElem?_toArray, List.getElem?_cons_zero, List.getElem?_cons_succ, Option.some.injEq] at ho
      subst ho
      obtain rfl := F1 (hd ⟨1, .data⟩ (by simp) rfl)
      refine wpOp_step rfl (fun K hK => ?_)
      go_simp
      try rw [wi]
      refine hK _ _ ?_
      exact ⟨_, _, _, _, _, _, _, _, _, _, _, _, _, _, _, _, _, _, _, _, _, _, _, _, _, _, _, _, _, _, _, _, _, rfl, lk F0, lk F1, fun _ => rfl, lk F3, lk F4, lk F5, lk F6, lk F7, lk F8, lk F9, lk F10, lk F11, lk F12, lk F13, lk F14, lk F15, lk F16, lk F17, lk F18, lk F19, lk F20, lk F21, lk F22, lk F23, lk F24, lk F25, lk F26, lk F27, lk F28, lk F29, lk F30, lk F31, lk F32, F33, F34, F35⟩
    · simp only [List.getElem?_toArray, List.getElem?_cons_zero, List.getElem?_cons_succ, Option.some.injEq] at ho
      subst ho
      obtain rfl := F0 (hd ⟨0, .data⟩ (by simp) rfl)
      obtain rfl := F2 (hd ⟨2, .data⟩ (by simp) rfl)
      refine wpOp_step rfl (fun K hK => ?_)
      go_simp
      refine hK _ _ ?_
      exact ⟨_, _, _, _, _, _, _, _, _, _, _, _, _, _, _, _, _, _, _, _, _, _, _, _, _, _, _, _, _, _, _, _, _, rfl, lk F0, lk F1, lk F2, fun _ => rfl, lk F4, lk F5, lk F6, lk F7, lk F8, lk F9, lk F10, lk F11, lk F12, lk F13, lk F14, lk F15, lk F16, lk F17, lk F18, lk F19, lk F20, lk F21, lk F22, lk F23, lk F24, lk F25, lk F26, lk F27, lk F28, lk F29, lk F30, lk F31, lk F32, F33, F34, F35⟩
    · simp only [List.getElem?_toArray, List.getElem?_cons_zero, List.getElem?_cons_succ, Option.some.injEq] at ho
      subst ho
      obtain rfl := F3 (hd ⟨3, .data⟩ (by simp) rfl)
      refine wpOp_step rfl (fun K hK => ?_)
      go_simp
      refine hK _ _ ?_
      exact ⟨_, _, _, _, _, _, _, _, _, _, _, _, _, _, _, _, _, _, _, _, _, _, _, _, _, _, _, _, _, _, _, _, _, rfl, lk F0, lk F1, lk F2, lk F3, fun _ => rfl, lk F5, lk F6, lk F7, lk F8, lk F9, lk F10, lk F11, lk F12, lk F13, lk F14, lk F15, lk F16, lk F17, lk F18, lk F19, lk F20, lk F21, lk F22, lk F23, lk F24, lk F25, lk F26, lk F27, lk F28, lk F29, lk F30, lk F31, lk F32, F33, F34, F35⟩
    · simp only [List.getElem?_toArray, List.getElem?_cons_zero, List.getElem?_cons_succ, Option.some.injEq] at ho
      subst ho
      obtain rfl := F4 (hd ⟨4, .data⟩ (by simp) rfl)
      have h0 := F34; have h1 := F35
      refine wpOp_step rfl (fun K hK => ?_)
      go_simp
      refine hK _ _ ?_
      exact ⟨_, _, _, _, _, _, _, _, _, _, _, _, _, _, _, _, _, _, _, _, _, _, _, _, _, _, _, _, _, _, _, _, _, rfl, lk F0, lk F1, lk F2, lk F3, lk F4, fun _ => rfl, lk F6, lk F7, lk F8, lk F9, lk F10, lk F11, lk F12, lk F13, lk F14, lk F15, lk F16, lk F17, lk F18, lk F19, lk F20, lk F21, lk F22, lk F23, lk F24, lk F25, lk F26, lk F27, lk F28, lk F29, lk F30, lk F31, lk F32, F33, F34, F35⟩
    · simp only [List.getElem?_toArray, List.getElem?_cons_zero, List.getElem?_cons_succ, Option.some.injEq] at ho
      subst ho
      obtain rfl := F5 (hd ⟨5, .data⟩ (by simp) rfl)
      refine wpOp_step rfl (fun K hK => ?_)
      go_simp
      refine hK _ _ ?_
      exact ⟨_, _, _, _, _, _, _, _, _, _, _, _, _, _, _, _, _, _, _, _, _, _, _, _, _, _, _, _, _, _, _, _, _, rfl, lk F0, lk F1, lk F2, lk F3, lk F4, lk F5, fun _ => rfl, lk F7, lk F8, lk F9, lk F10, lk F11, lk F12, lk F13, lk F14, lk F15, lk F16, lk F17, lk F18, lk F19, lk F20, lk F21, lk F22, lk F23, lk F24, lk F25, lk F26, lk F27, lk F28, lk F29, lk F30, lk F31, lk F32, F33, F34, F35⟩
    · simp only [List.getElem?_toArray, List.getElem?_cons_zero, List.getElem?_cons_succ, Option.some.injEq] at ho
      subst ho
      obtain rfl := F6 (hd ⟨6, .data⟩ (by simp) rfl)
      refine wpOp_step rfl (fun K hK => ?_)
      go_simp
      refine hK _ _ ?_
      exact ⟨_, _, _, _, _, _, _, _, _, _, _, _, _, _, _, _, _, _, _, _, _, _, _, _, _, _, _, _, _, _, _, _, _, rfl, lk F0, lk F1, lk F2, lk F3, lk F4, lk F5, lk F6, fun _ => rfl, lk F8, lk F9, lk F10, lk F11, lk F12, lk F13, lk F14, lk F15, lk F16, lk F17, lk F18, lk F19, lk F20, lk F21, lk F22, lk F23, lk F24, lk F25, lk F26, lk F27, lk F28, lk F29, lk F30, lk F31, lk F32, F33, F34, F35⟩
    · simp only [List.getElem?_toArray, List.getElem?_cons_zero, List.getElem?_cons_succ, Option.some.injEq] at ho
      subst ho
      obtain rfl := F7 (hd ⟨7, .guard⟩ (by simp) rfl)
      refine wpOp_step rfl (fun K hK => ?_)
      go_simp
      refine hK _ _ ?_
      exact ⟨_, _, _, _, _, _, _, _, _, _, _, _, _, _, _, _, _, _, _, _, _, _, _, _, _, _, _, _, _, _, _, _, _, rfl, lk F0, lk F1, lk F2, lk F3, lk F4, lk F5, lk F6, lk F7, fun _ => rfl, lk F9, lk F10, lk F11, lk F12, lk F13, lk F14, lk F15, lk F16, lk F17, lk F18, lk F19, lk F20, lk F21, lk F22, lk F23, lk F24, lk F25, lk F26, lk F27, lk F28, lk F29, lk F30, lk F31, lk F32, F33, F34, F35⟩
    · simp only [List.getElem?_toArray, List.getElem?_cons_zero, List.getElem?_cons_succ, Option.some.injEq] at ho
      subst ho
      obtain rfl := F7 (hd ⟨7, .guard⟩ (by simp) rfl)
      refine wpOp_step rfl (fun K hK => ?_)
      go_simp
      refine hK _ _ ?_
      exact ⟨_, _, _, _, _, _, _, _, _, _, _, _, _, _, _, _, _, _, _, _, _, _, _, _, _, _, _, _, _, _, _, _, _, rfl, lk F0, lk F1, lk F2, lk F3, lk F4, lk F5, lk F6, lk F7, lk F8, fun _ => rfl, lk F10, lk F11, lk F12, lk F13, lk F14, lk F15, lk F16, lk F17, lk F18, lk F19, lk F20, lk F21, lk F22, lk F23, lk F24, lk F25, lk F26, lk F27, lk F28, lk F29, lk F30, lk F31, lk F32, F33, F34, F35⟩
    · simp only [List.getElem?_toArray, List.getElem?_cons_zero, List.getElem?_cons_succ, Option.some.injEq] at ho
      subst ho
      obtain rfl := F7 (hd ⟨7, .guard⟩ (by simp) rfl)
      refine wpOp_step rfl (fun K hK => ?_)
      go_simp
      refine hK _ _ ?_
      exact ⟨_, _, _, _, _, _, _, _, _, _, _, _, _, _, _, _, _, _, _, _, _, _, _, _, _, _, _, _, _, _, _, _, _, rfl, lk F0, lk F1, lk F2, lk F3, lk F4, lk F5, lk F6, lk F7, lk F8, lk F9, fun _ => rfl, lk F11, lk F12, lk F13, lk F14, lk F15, lk F16, lk F17, lk F18, lk F19, lk F20, lk F21, lk F22, lk F23, lk F24, lk F25, lk F26, lk F27, lk F28, lk F29, lk F30, lk F31, lk F32, F33, F34, F35⟩
    · simp only [List.getElem?_toArray, List.getElem?_cons_zero, List.getElem?_cons_succ, Option.some.injEq] at ho
      subst ho
      obtain rfl := F7 (hd ⟨7, .guard⟩ (by simp) rfl)
      refine wpOp_step rfl (fun K hK => ?_)
      go_simp
      refine hK _ _ ?_
      exact ⟨_, _, _, _, _, _, _, _, _, _, _, _, _, _, _, _, _, _, _, _, _, _, _, _, _, _, _, _, _, _, _, _, _, rfl, lk F0, lk F1, lk F2, lk F3, lk F4, lk F5, lk F6, lk F7, lk F8, lk F9, lk F10, fun _ => rfl, lk F12, lk F13, lk F14, lk F15, lk F16, lk F17, lk F18, lk F19, lk F20, lk F21, lk F22, lk F23, lk F24, lk F25, lk F26, lk F27, lk F28, lk F29, lk F30, lk F31, lk F32, F33, F34, F35⟩
    · simp only [List.getElem?_toArray, List.getElem?_cons_zero, List.getElem?_cons_succ, Option.some.injEq] at ho
      subst ho
      obtain rfl := F7 (hd ⟨7, .guard⟩ (by simp) rfl)
      refine wpOp_step rfl (fun K hK => ?_)
      go_simp
      refine hK _ _ ?_
      exact ⟨_, _, _, _, _, _, _, _, _, _, _, _, _, _, _, _, _, _, _, _, _, _, _, _, _, _, _, _, _, _, _, _, _, rfl, lk F0, lk F1, lk F2, lk F3, lk F4, lk F5, lk F6, lk F7, lk F8, lk F9, lk F10, lk F11, fun _ => rfl, lk F13, lk F14, lk F15, lk F16, lk F17, lk F18, lk F19, lk F20, lk F21, lk F22, lk F23, lk F24, lk F25, lk F26, lk F27, lk F28, lk F29, lk F30, lk F31, lk F32, F33, F34, F35⟩
    · simp only [List.getElem?_toArray, List.getElem?_cons_zero, List.getElem?_cons_succ, Option.some.injEq] at ho
      subst ho
      obtain rfl := F7 (hd ⟨7, .guard⟩ (by simp) rfl)
      refine wpOp_step rfl (fun K hK => ?_)
      go_simp
      refine hK _ _ ?_
      exact ⟨_, _, _, _, _, _, _, _, _, _, _, _, _, _, _, _, _, _, _, _, _, _, _, _, _, _, _, _, _, _, _, _, _, rfl, lk F0, lk F1, lk F2, lk F3, lk F4, lk F5, lk F6, lk F7, lk F8, lk F9, lk F10, lk F11, lk F12, fun _ => rfl, lk F14, lk F15, lk F16, lk F17, lk F18, lk F19, lk F20, lk F21, lk F22, lk F23, lk F24, lk F25, lk F26, lk F27, lk F28, lk F29, lk F30, lk F31, lk F32, F33, F34, F35⟩
    · simp only [List.getElem?_toArray, List.getElem?_cons_zero, List.getElem?_cons_succ, Option.some.injEq] at ho
      subst ho
      obtain rfl := F7 (hd ⟨7, .guard⟩ (by simp) rfl)
      refine wpOp_step rfl (fun K hK => ?_)
      go_simp
      refine hK _ _ ?_
      exact ⟨_, _, _, _, _, _, _, _, _, _, _, _, _, _, _, _, _, _, _, _, _, _, _, _, _, _, _, _, _, _, _, _, _, rfl, lk F0, lk F1, lk F2, lk F3, lk F4, lk F5, lk F6, lk F7, lk F8, lk F9, lk F10, lk F11, lk F12, lk F13, fun _ => rfl, lk F15, lk F16, lk F17, lk F18, lk F19, lk F20, lk F21, lk F22, lk F23, lk F24, lk F25, lk F26, lk F27, lk F28, lk F29, lk F30, lk F31, lk F32, F33, F34, F35⟩
    · simp only [List.getElem?_toArray, List.getElem?_cons_zero, List.getElem?_cons_succ, Option.some.injEq] at ho
      subst ho
      obtain rfl := F7 (hd ⟨7, .guard⟩ (by simp) rfl)
      refine wpOp_step rfl (fun K hK => ?_)
      go_simp
      refine hK _ _ ?_
      exact ⟨_, _, _, _, _, _, _, _, _, _, _, _, _, _, _, _, _, _, _, _, _, _, _, _, _, _, _, _, _, _, _, _, _, rfl, lk F0, lk F1, lk F2, lk F3, lk F4, lk F5, lk F6, lk F7, lk F8, lk F9, lk F10, lk F11, lk F12, lk F13, lk F14, fun _ => rfl, lk F16, lk F17, lk F18, lk F19, lk F20, lk F21, lk F22, lk F23, lk F24, lk F25, lk F26, lk F27, lk F28, lk F29, lk F30, lk F31, lk F32, F33, F34, F35⟩
    · simp only [List.getElem?_toArray, List.getElem?_cons_zero, List.getElem?_cons_succ, Option.some.injEq] at ho
      subst ho
      obtain rfl := F7 (hd ⟨7, .guard⟩ (by simp) rfl)
      refine wpOp_step rfl (fun K hK => ?_)
      go_simp
      refine hK _ _ ?_
      exact ⟨_, _, _, _, _, _, _, _, _, _, _, _, _, _, _, _, _, _, _, _, _, _, _, _, _, _, _, _, _, _, _, _, _, rfl, lk F0, lk F1, lk F2, lk F3, lk F4, lk F5, lk F6, lk F7, lk F8, lk F9, lk F10, lk F11, lk F12, lk F13, lk F14, lk F15, fun _ => rfl, lk F17, lk F18, lk F19, lk F20, lk F21, lk F22, lk F23, lk F24, lk F25, lk F26, lk F27, lk F28, lk F29, lk F30, lk F31, lk F32, F33, F34, F35⟩
    · simp only [List.getElem?_toArray, List.getElem?_cons_zero, List.getElem?_cons_succ, Option.some.injEq] at ho
      subst ho
      obtain rfl := F7 (hd ⟨7, .guard⟩ (by simp) rfl)
      refine wpOp_step rfl (fun K hK => ?_)
      go_simp
      refine hK _ _ ?_
      exact ⟨_, _, _, _, _, _, _, _, _, _, _, _, _, _, _, _, _, _, _, _, _, _, _, _, _, _, _, _, _, _, _, _, _, rfl, lk F0, lk F1, lk F2, lk F3, lk F4, lk F5, lk F6, lk F7, lk F8, lk F9, lk F10, lk F11, lk F12, lk F13, lk F14, lk F15, lk F16, fun _ => rfl, lk F18, lk F19, lk F20, lk F21, lk F22, lk F23, lk F24, lk F25, lk F26, lk F27, lk F28, lk F29, lk F30, lk F31, lk F32, F33, F34, F35⟩
    · simp only [List.getElem?_toArray, List.getElem?_cons_zero, List.getElem?_cons_succ, Option.some.injEq] at ho
      subst ho
      obtain rfl := F7 (hd ⟨7, .guard⟩ (by simp) rfl)
      refine wpOp_step rfl (fun K hK => ?_)
      go_simp
      refine hK _ _ ?_
      exact ⟨_, _, _, _, _, _, _, _, _, _, _, _, _, _, _, _, _, _, _, _, _, _, _, _, _, _, _, _, _, _, _, _, _, rfl, lk F0, lk F1, lk F2, lk F3, lk F4, lk F5, lk F6, lk F7, lk F8, lk F9, lk F10, lk F11, lk F12, lk F13, lk F14, lk F15, lk F16, lk F17, fun _ => rfl, lk F19, lk F20, lk F21, lk F22, lk F23, lk F24, lk F25, lk F26, lk F27, lk F28, lk F29, lk F30, lk F31, lk F32, F33, F34, F35⟩
    · simp only [List.getElem?_toArray, List.getElem?_cons_zero, List.getElem?_cons_succ, Option.some.injEq] at ho
      subst ho
      obtain rfl := F7 (hd ⟨7, .guard⟩ (by simp) rfl)
      refine wpOp_step rfl (fun K hK => ?_)
      go_simp
      refine hK _ _ ?_
      exact ⟨_, _, _, _, _, _, _, _, _, _, _, _, _, _, _, _, _, _, _, _, _, _, _, _, _, _, _, _, _, _, _, _, _, rfl, lk F0, lk F1, lk F2, lk F3, lk F4, lk F5, lk F6, lk F7, lk F8, lk F9, lk F10, lk F11, lk F12, lk F13, lk F14, lk F15, lk F16, lk F17, lk F18, fun _ => rfl, lk F20, lk F21, lk F22, lk F23, lk F24, lk F25, lk F26, lk F27, lk F28, lk F29, lk F30, lk F31, lk F32, F33, F34, F35⟩
    · simp only [List.getElem?_toArray, List.getElem?_cons_zero, List.getElem?_cons_succ, Option.some.injEq] at ho
      subst ho
      obtain rfl := F7 (hd ⟨7, .guard⟩ (by simp) rfl)
      refine wpOp_step rfl (fun K hK => ?_)
      go_simp
      refine hK _ _ ?_
      exact ⟨_, _, _, _, _, _, _, _, _, _, _, _, _, _, _, _, _, _, _, _, _, _, _, _, _, _, _, _, _, _, _, _, _, rfl, lk F0, lk F1, lk F2, lk F3, lk F4, lk F5, lk F6, lk F7, lk F8, lk F9, lk F10, lk F11, lk F12, lk F13, lk F14, lk F15, lk F16, lk F17, lk F18, lk F19, fun _ => rfl, lk F21, lk F22, lk F23, lk F24, lk F25, lk F26, lk F27, lk F28, lk F29, lk F30, lk F31, lk F32, F33, F34, F35⟩
    · simp only [List.getElem?_toArray, List.getElem?_cons_zero, List.getElem?_cons_succ, Option.some.injEq] at ho
      subst ho
      obtain rfl := F7 (hd ⟨7, .data⟩ (by simp) rfl)
      refine wpOp_step rfl (fun K hK => ?_)
      go_simp
      refine hK _ _ ?_
      exact ⟨_, _, _, _, _, _, _, _, _, _, _, _, _, _, _, _, _, _, _, _, _, _, _, _, _, _, _, _, _, _, _, _, _, rfl, lk F0, lk F1, lk F2, lk F3, lk F4, lk F5, lk F6, lk F7, lk F8, lk F9, lk F10, lk F11, lk F12, lk F13, lk F14, lk F15, lk F16, lk F17, lk F18, lk F19, lk F20, fun _ => rfl, lk F22, lk F23, lk F24, lk F25, lk F26, lk F27, lk F28, lk F29, lk F30, lk F31, lk F32, F33, F34, F35⟩
    · simp only [List.getElem?_toArray, List.getElem?_cons_zero, List.getElem?_cons_succ, Option.some.injEq] at ho
      subst ho
      obtain rfl := F21 (hd ⟨21, .data⟩ (by simp) rfl)
      refine wpOp_step rfl (fun K hK => ?_)
      go_simp
      refine hK _ _ ?_
      exact ⟨_, _, _, _, _, _, _, _, _, _, _, _, _, _, _, _, _, _, _, _, _, _, _, _, _, _, _, _, _, _, _, _, _, rfl, lk F0, lk F1, lk F2, lk F3, lk F4, lk F5, lk F6, lk F7, lk F8, lk F9, lk F10, lk F11, lk F12, lk F13, lk F14, lk F15, lk F16, lk F17, lk F18, lk F19, lk F20, lk F21, fun _ => rfl, lk F23, lk F24, lk F25, lk F26, lk F27, lk F28, lk F29, lk F30, lk F31, lk F32, F33, F34, F35⟩
    · simp only [List.getElem?_toArray, List.getElem?_cons_zero, List.getElem?_cons_succ, Option.some.injEq] at ho
      subst ho
      obtain rfl := F22 (hd ⟨22, .guard⟩ (by simp) rfl)
      refine wpOp_step rfl (fun K hK => ?_)
      go_simp
      refine hK _ _ ?_
      exact ⟨_, _, _, _, _, _, _, _, _, _, _, _, _, _, _, _, _, _, _, _, _, _, _, _, _, _, _, _, _, _, _, _, _, rfl, lk F0, lk F1, lk F2, lk F3, lk F4, lk F5, lk F6, lk F7, lk F8, lk F9, lk F10, lk F11, lk F12, lk F13, lk F14, lk F15, lk F16, lk F17, lk F18, lk F19, lk F20, lk F21, lk F22, fun _ => rfl, lk F24, lk F25, lk F26, lk F27, lk F28, lk F29, lk F30, lk F31, lk F32, F33, F34, F35⟩
    · simp only [List.getElem?_toArray, List.getElem?_cons_zero, List.getElem?_cons_succ, Option.some.injEq] at ho
      subst ho
      obtain rfl := F22 (hd ⟨22, .guard⟩ (by simp) rfl)
      refine wpOp_step rfl (fun K hK => ?_)
      go_simp
      refine hK _ _ ?_
      exact ⟨_, _, _, _, _, _, _, _, _, _, _, _, _, _, _, _, _, _, _, _, _, _, _, _, _, _, _, _, _, _, _, _, _, rfl, lk F0, lk F1, lk F2, lk F3, lk F4, lk F5, lk F6, lk F7, lk F8, lk F9, lk F10, lk F11, lk F12, lk F13, lk F14, lk F15, lk F16, lk F17, lk F18, lk F19, lk F20, lk F21, lk F22, lk F23, fun _ => rfl, lk F25, lk F26, lk F27, lk F28, lk F29, lk F30, lk F31, lk F32, F33, F34, F35⟩
    · simp only [List.getElem?_toArray, List.getElem?_cons_zero, List.getElem?_cons_succ, Option.some.injEq] at ho
      subst ho
      obtain rfl := F22 (hd ⟨22, .guard⟩ (by simp) rfl)
      refine wpOp_step rfl (fun K hK => ?_)
      go_simp
      refine hK _ _ ?_
      exact ⟨_, _, _, _, _, _, _, _, _, _, _, _, _, _, _, _, _, _, _, _, _, _, _, _, _, _, _, _, _, _, _, _, _, rfl, lk F0, lk F1, lk F2, lk F3, lk F4, lk F5, lk F6, lk F7, lk F8, lk F9, lk F10, lk F11, lk F12, lk F13, lk F14, lk F15, lk F16, lk F17, lk F18, lk F19, lk F20, lk F21, lk F22, lk F23, lk F24, fun _ => rfl, lk F26, lk F27, lk F28, lk F29, lk F30, lk F31, lk F32, F33, F34, F35⟩
    · simp only [List.getElem?_toArray, List.getElem?_cons_zero, List.getElem?_cons_succ, Option.some.injEq] at ho
      subst ho
      obtain rfl := F22 (hd ⟨22, .data⟩ (by simp) rfl)
      refine wpOp_step rfl (fun K hK => ?_)
      go_simp
      refine hK _ _ ?_
      exact ⟨_, _, _, _, _, _, _, _, _, _, _, _, _, _, _, _, _, _, _, _, _, _, _, _, _, _, _, _, _, _, _, _, _, rfl, lk F0, lk F1, lk F2, lk F3, lk F4, lk F5, lk F6, lk F7, lk F8, lk F9, lk F10, lk F11, lk F12, lk F13, lk F14, lk F15, lk F16, lk F17, lk F18, lk F19, lk F20, lk F21, lk F22, lk F23, lk F24, lk F25, fun _ => rfl, lk F27, lk F28, lk F29, lk F30, lk F31, lk F32, F33, F34, F35⟩
    · simp only [List.getElem?_toArray, List.getElem?_cons_zero, List.getElem?_cons_succ, Option.some.injEq] at ho
      subst ho
      obtain rfl := F26 (hd ⟨26, .data⟩ (by simp) rfl)
      refine wpOp_step rfl (fun K hK => ?_)
      go_simp
      refine hK _ _ ?_
      exact ⟨_, _, _, _, _, _, _, _, _, _, _, _, _, _, _, _, _, _, _, _, _, _, _, _, _, _, _, _, _, _, _, _, _, rfl, lk F0, lk F1, lk F2, lk F3, lk F4, lk F5, lk F6, lk F7, lk F8, lk F9, lk F10, lk F11, lk F12, lk F13, lk F14, lk F15, lk F16, lk F17, lk F18, lk F19, lk F20, lk F21, lk F22, lk F23, lk F24, lk F25, lk F26, fun _ => rfl, lk F28, lk F29, lk F30, lk F31, lk F32, F33, F34, F35⟩
    · simp only [List.getElem?_toArray, List.getElem?_cons_zero, List.getElem?_cons_succ, Option.some.injEq] at ho
      subst ho
      obtain rfl := F27 (hd ⟨27, .guard⟩ (by simp) rfl)
      refine wpOp_step rfl (fun K hK => ?_)
      go_simp
      refine hK _ _ ?_
      exact ⟨_, _, _, _, _, _, _, _, _, _, _, _, _, _, _, _, _, _, _, _, _, _, _, _, _, _, _, _, _, _, _, _, _, rfl, lk F0, lk F1, lk F2, lk F3, lk F4, lk F5, lk F6, lk F7, lk F8, lk F9, lk F10, lk F11, lk F12, lk F13, lk F14, lk F15, lk F16, lk F17, lk F18, lk F19, lk F20, lk F21, lk F22, lk F23, lk F24, lk F25, lk F26, lk F27, fun _ => rfl, lk F29, lk F30, lk F31, lk F32, F33, F34, F35⟩
    · simp only [List.getElem?_toArray, List.getElem?_cons_zero, List.getElem?_cons_succ, Option.some.injEq] at ho
      subst ho
      obtain rfl := F27 (hd ⟨27, .guard⟩ (by simp) rfl)
      refine wpOp_step rfl (fun K hK => ?_)
      go_simp
      refine hK _ _ ?_
      exact ⟨_, _, _, _, _, _, _, _, _, _, _, _, _, _, _, _, _, _, _, _, _, _, _, _, _, _, _, _, _, _, _, _, _, rfl, lk F0, lk F1, lk F2, lk F3, lk F4, lk F5, lk F6, lk F7, lk F8, lk F9, lk F10, lk F11, lk F12, lk F13, lk F14, lk F15, lk F16, lk F17, lk F18, lk F19, lk F20, lk F21, lk F22, lk F23, lk F24, lk F25, lk F26, lk F27, lk F28, fun _ => rfl, lk F30, lk F31, lk F32, F33, F34, F35⟩
    · simp only [List.getElem?_toArray, List.getElem?_cons_zero, List.getElem?_cons_succ, Option.some.injEq] at ho
      subst ho
      obtain rfl := F27 (hd ⟨27, .guard⟩ (by simp) rfl)
      refine wpOp_step rfl (fun K hK => ?_)
      go_simp
      refine hK _ _ ?_
      exact ⟨_, _, _, _, _, _, _, _, _, _, _, _, _, _, _, _, _, _, _, _, _, _, _, _, _, _, _, _, _, _, _, _, _, rfl, lk F0, lk F1, lk F2, lk F3, lk F4, lk F5, lk F6, lk F7, lk F8, lk F9, lk F10, lk F11, lk F12, lk F13, lk F14, lk F15, lk F16, lk F17, lk F18, lk F19, lk F20, lk F21, lk F22, lk F23, lk F24, lk F25, lk F26, lk F27, lk F28, lk F29, fun _ => rfl, lk F31, lk F32, F33, F34, F35⟩
    · simp only [List.getElem?_toArray, List.getElem?_cons_zero, List.getElem?_cons_succ, Option.some.injEq] at ho
      subst ho
      obtain rfl := F27 (hd ⟨27, .data⟩ (by simp) rfl)
      refine wpOp_step rfl (fun K hK => ?_)
      go_simp
      refine hK _ _ ?_
      exact ⟨_, _, _, _, _, _, _, _, _, _, _, _, _, _, _, _, _, _, _, _, _, _, _, _, _, _, _, _, _, _, _, _, _, rfl, lk F0, lk F1, lk F2, lk F3, lk F4, lk F5, lk F6, lk F7, lk F8, lk F9, lk F10, lk F11, lk F12, lk F13, lk F14, lk F15, lk F16, lk F17, lk F18, lk F19, lk F20, lk F21, lk F22, lk F23, lk F24, lk F25, lk F26, lk F27, lk F28, lk F29, lk F30, fun _ => rfl, lk F32, F33, F34, F35⟩
    · simp only [List.getElem?_toArray, List.getElem?_cons_zero, List.getElem?_cons_succ, Option.some.injEq] at ho
      subst ho
      obtain rfl := F31 (hd ⟨31, .data⟩ (by simp) rfl)
      refine wpOp_step rfl (fun K hK => ?_)
      go_simp
      refine hK _ _ ?_
      exact ⟨_, _, _, _, _, _, _, _, _, _, _, _, _, _, _, _, _, _, _, _, _, _, _, _, _, _, _, _, _, _, _, _, _, rfl, lk F0, lk F1, lk F2, lk F3, lk F4, lk F5, lk F6, lk F7, lk F8, lk F9, lk F10, lk F11, lk F12, lk F13, lk F14, lk F15, lk F16, lk F17, lk F18, lk F19, lk F20, lk F21, lk F22, lk F23, lk F24, lk F25, lk F26, lk F27, lk F28, lk F29, lk F30, lk F31, fun _ => rfl, F33, F34, F35⟩
  · intro listed A w hall hI
    unfold OnAI at hI
    obtain ⟨s9, hI⟩ := hI
    obtain ⟨s10, hI⟩ := hI
    obtain ⟨s11, hI⟩ := hI
    obtain ⟨s12, hI⟩ := hI
    obtain ⟨s13, hI⟩ := hI
    obtain ⟨s14, hI⟩ := hI
    obtain ⟨s15, hI⟩ := hI
    obtain ⟨s16, hI⟩ := hI
    obtain ⟨s17, hI⟩ := hI
    obtain ⟨s18, hI⟩ := hI
    obtain ⟨s19, hI⟩ := hI
    obtain ⟨s20, hI⟩ := hI
    obtain ⟨s21, hI⟩ := hI
    obtain ⟨s22, hI⟩ := hI
    obtain ⟨s23, hI⟩ := hI
    obtain ⟨s24, hI⟩ := hI
    obtain ⟨s25, hI⟩ := hI
    obtain ⟨s26, hI⟩ := hI
    obtain ⟨s27, hI⟩ := hI
    obtain ⟨s28, hI⟩ := hI
    obtain ⟨s29, hI⟩ := hI
    obtain ⟨s30, hI⟩ := hI
    obtain ⟨s31, hI⟩ := hI
    obtain ⟨s32, hI⟩ := hI
    obtain ⟨s33, hI⟩ := hI
    obtain ⟨s34, hI⟩ := hI
    obtain ⟨s35, hI⟩ := hI
    obtain ⟨s36, hI⟩ := hI
    obtain ⟨s37, hI⟩ := hI
    obtain ⟨s38, hI⟩ := hI
    obtain ⟨s39, hI⟩ := hI
    obtain ⟨s40, hI⟩ := hI
    obtain ⟨s41, hI⟩ := hI
    obtain ⟨rfl, hI⟩ := hI
    obtain ⟨F0, hI⟩ := hI
    obtain ⟨F1, hI⟩ := hI
    obtain ⟨F2, hI⟩ := hI
    obtain ⟨F3, hI⟩ := hI
    obtain ⟨F4, hI⟩ := hI
    obtain ⟨F5, hI⟩ := hI
    obtain ⟨F6, hI⟩ := hI
    obtain ⟨F7, hI⟩ := hI
    obtain ⟨F8, hI⟩ := hI
    obtain ⟨F9, hI⟩ := hI
    obtain ⟨F10, hI⟩ := hI
    obtain ⟨F11, hI⟩ := hI
    obtain ⟨F12, hI⟩ := hI
    obtain ⟨F13, hI⟩ := hI
    obtain ⟨F14, hI⟩ := hI
    obtain ⟨F15, hI⟩ := hI
    obtain ⟨F16, hI⟩ := hI
    obtain ⟨F17, hI⟩ := hI
    obtain ⟨F18, hI⟩ := hI
    obtain ⟨F19, hI⟩ := hI
    obtain ⟨F20, hI⟩ := hI
    obtain ⟨F21, hI⟩ := hI
    obtain ⟨F22, hI⟩ := hI
    obtain ⟨F23, hI⟩ := hI
    obtain ⟨F24, hI⟩ := hI
    obtain ⟨F25, hI⟩ := hI
    obtain ⟨F26, hI⟩ := hI
    obtain ⟨F27, hI⟩ := hI
    obtain ⟨F28, hI⟩ := hI
    obtain ⟨F29, hI⟩ := hI
    obtain ⟨F30, hI⟩ := hI
    obtain ⟨F31, hI⟩ := hI
    obtain ⟨F32, hI⟩ := hI
    obtain ⟨F33, hI⟩ := hI
    obtain ⟨F34, hI⟩ := hI
    have F35 := hI; clear hI
    obtain rfl := F0 (hall 0 (by decide))
    obtain rfl := F1 (hall 1 (by decide))
    obtain rfl := F2 (hall 2 (by decide))
    obtain rfl := F3 (hall 3 (by decide))
    obtain rfl := F4 (hall 4 (by decide))
    obtain rfl := F5 (hall 5 (by decide))
    obtain rfl := F6 (hall 6 (by decide))
    obtain rfl := F7 (hall 7 (by decide))
    obtain rfl := F8 (hall 8 (by decide))
    obtain rfl := F9 (hall 9 (by decide))
    obtain rfl := F10 (hall 10 (by decide))
    obtain rfl := F11 (hall 11 (by decide))
    obtain rfl := F12 (hall 12 (by decide))
    obtain rfl := F13 (hall 13 (by decide))
    obtain rfl := F14 (hall 14 (by decide))
    obtain rfl := F15 (hall 15 (by decide))
    obtain rfl := F16 (hall 16 (by decide))
    obtain rfl := F17 (hall 17 (by decide))
    obtain rfl := F18 (hall 18 (by decide))
    obtain rfl := F19 (hall 19 (by decide))
    obtain rfl := F20 (hall 20 (by decide))
    obtain rfl := F21 (hall 21 (by decide))
    obtain rfl := F22 (hall 22 (by decide))
    obtain rfl := F23 (hall 23 (by decide))
    obtain rfl := F24 (hall 24 (by decide))
    obtain rfl := F25 (hall 25 (by decide))
    obtain rfl := F26 (hall 26 (by decide))
    obtain rfl := F27 (hall 27 (by decide))
    obtain rfl := F28 (hall 28 (by decide))
    obtain rfl := F29 (hall 29 (by decide))
    obtain rfl := F30 (hall 30 (by decide))
    obtain rfl := F31 (hall 31 (by decide))
    obtain rfl := F32 (hall 32 (by decide))
    have HB := F33
    have Q0 := F34
    have Q1 := F35
    exact hQ _ trivial HB
def OnBI (w0 : World) (ad : Addr) (N cl i j p q : Nat) (_bm : Bool) (c2 c4 c5 c6 c7 c8 c42 c43 c44 c45 c46 c47 c48 c49 c50 c51 c52 c53 c54 c55 c56 c57 c58 c59 c60 c61 c62 c63 c64 c65 c66 c67 c68 c69 c70 c71 c72 c73 c74 c75 c76 c77 c78 c79 c80 c81 c82 c83 c84 c85 c86 c87 c88 c89 c90 c91 c92 c93 c94 c95 c96 c97 c98 c99 c100 c101 c102 c103 c104 c105 c106 c107 c108 c109 c110 c111 c112 c113 c114 c115 c116 c117 c118 c119 c120 c121 c122 c123 c124 c125 c126 c127 c128 c129 c130 c131 c132 c133 c134 c135 c136 c137 c138 c139 c140 c141 c142 c143 c144 c145 c146 c147 c148 : Value) (listed : Array Bool) (A : Act) (w : World) : Prop := ∃ (s9 s10 s11 s12 s13 s14 s15 s16 s17 s18 s19 s20 s21 s22 s23 s24 s25 s26 s27 s28 s29 s30 s31 s32 s33 s34 s35 s36 s37 s38 s39 s40 s41 : Value), A = { tmps := #[.slice (some ad) N cl, .int .i64 ((i : Int) + 1), c2, .int .i64 ((j : Int) + 1), c4, c5, c6, c7, c8, s9, s10, s11, s12, s13, s14, s15, s16, s17, s18, s19, s20, s21, s22, s23, s24, s25, s26, s27, s28, s29, s30, s31, s32, s33, s34, s35, s36, s37, s38, s39, s40, s41, c42, c43, c44, c45, c46, c47, c48, c49, c50, c51, c52, c53, c54, c55, c56, c57, c58, c59, c60, c61, c62, c63, c64, c65, c66, c67, c68, c69, c70, c71, c72, c73, c74, c75, c76, c77, c78, c79, c80, c81, c82, c83, c84, c85, c86, c87, c88, c89, c90, c91, c92, c93, c94, c95, c96, c97, c98, c99, c100, c101, c102, c103, c104, c105, c106, c107, c108, c109, c110, c111, c112, c113, c114, c115, c116, c117, c118, c119, c120, c121, c122, c123, c124, c125, c126, c127, c128, c129, c130, c131, c132, c133, c134, c135, c136, c137, c138, c139, c140, c141, c142, c143, c144, c145, c146, c147, c148], defers := [] } ∧
  (listed.getD 0 false = true → s10 = .slice (some ad) N cl) ∧
  (listed.getD 1 false = true → s11 = .int .i64 ((i : Int) + 1)) ∧
  (listed.getD 2 false = true → s12 = .int .i64 (i : Int)) ∧
  (listed.getD 3 false = true → s13 = .pointer (some (ad.add (i * 6)))) ∧
  (listed.getD 4 false = true → s14 = .pointer (some ⟨(ad.add (i * 6)).block, (ad.add (i * 6)).off + 5, none⟩)) ∧
  (listed.getD 5 false = true → s15 = .int .i64 (p : Int)) ∧
  (listed.getD 6 false = true → s16 = .bool true) ∧
  (listed.getD 7 false = true → s17 = .bool true) ∧
  (listed.getD 8 false = true → s18 = .slice (some ad) N cl) ∧
  (listed.getD 9 false = true → s19 = .int .i64 ((j : Int) + 1)) ∧
  (listed.getD 10 false = true → s20 = .int .i64 (j : Int)) ∧
  (listed.getD 11 false = true → s21 = .pointer (some (ad.add (j * 6)))) ∧
  (listed.getD 12 false = true → s22 = .pointer (some ⟨(ad.add (j * 6)).block, (ad.add (j * 6)).off + 5, none⟩)) ∧
  (listed.getD 13 false = true → s23 = .int .i64 (q : Int)) ∧
  (listed.getD 14 false = true → s24 = .slice (some ad) N cl) ∧
  (listed.getD 15 false = true → s25 = .int .i64 ((i : Int) + 1)) ∧
  (listed.getD 16 false = true → s26 = .int .i64 (i : Int)) ∧
  (listed.getD 17 false = true → s27 = .pointer (some (ad.add (i * 6)))) ∧
  (listed.getD 18 false = true → s28 = .pointer (some ⟨(ad.add (i * 6)).block, (ad.add (i * 6)).off + 5, none⟩)) ∧
  (listed.getD 19 false = true → s29 = .int .i64 (p : Int)) ∧
  (listed.getD 20 false = true → s30 = .bool false) ∧
  (listed.getD 21 false = true → s31 = .bool false) ∧
  (listed.getD 22 false = true → s32 = .bool false) ∧
  (listed.getD 23 false = true → s33 = undef) ∧
  (listed.getD 24 false = true → s34 = undef) ∧
  (listed.getD 25 false = true → s35 = undef) ∧
  (listed.getD 26 false = true → s36 = .bool false) ∧
  (listed.getD 27 false = true → s37 = .bool false) ∧
  (listed.getD 28 false = true → s38 = undef) ∧
  (listed.getD 29 false = true → s39 = undef) ∧
  (listed.getD 30 false = true → s40 = undef) ∧
  (listed.getD 31 false = true → s41 = .bool false) ∧
  (listed.getD 32 false = true → s9 = .bool false) ∧
  Below w0.heap.size w0 w ∧
  w.cell? ⟨(ad.add (i * 6)).block, (ad.add (i * 6)).off + 5, none⟩ = some (.int .i64 (p : Int)) ∧
  w.cell? ⟨(ad.add (j * 6)).block, (ad.add (j * 6)).off + 5, none⟩ = some (.int .i64 (q : Int))
set_option maxRecDepth 100000 in
set_option maxHeartbeats 16000000 in
theorem OnB_region (ad : Addr) (N cl i j p q : Nat) (bm : Bool) (x9 x10 x11 x12 x13 x14 x15 x16 x17 x18 x19 x20 x21 x22 x23 x24 x25 x26 x27 x28 x29 x30 x31 x32 x33 x34 x35 x36 x37 x38 x39 x40 x41 : Value) (c2 c4 c5 c6 c7 c8 c42 c43 c44 c45 c46 c47 c48 c49 c50 c51 c52 c53 c54 c55 c56 c57 c58 c59 c60 c61 c62 c63 c64 c65 c66 c67 c68 c69 c70 c71 c72 c73 c74 c75 c76 c77 c78 c79 c80 c81 c82 c83 c84 c85 c86 c87 c88 c89 c90 c91 c92 c93 c94 c95 c96 c97 c98 c99 c100 c101 c102 c103 c104 c105 c106 c107 c108 c109 c110 c111 c112 c113 c114 c115 c116 c117 c118 c119 c120 c121 c122 c123 c124 c125 c126 c127 c128 c129 c130 c131 c132 c133 c134 c135 c136 c137 c138 c139 c140 c141 c142 c143 c144 c145 c146 c147 c148 : Value) (w0 W : World) (Q : Exit → Act → World → Prop) (hb0 : Below w0.heap.size w0 W) (C0 : W.cell? ⟨(ad.add (i * 6)).block, (ad.add (i * 6)).off + 5, none⟩ = some (.int .i64 (p : Int))) (C1 : W.cell? ⟨(ad.add (j * 6)).block, (ad.add (j * 6)).off + 5, none⟩ = some (.int .i64 (q : Int))) (hi : i < N) (hj : j < N) (_hN : N ≤ 1048576) (wi : IntKind.i64.wrap (i : Int) = (i : Int)) (wj : IntKind.i64.wrap (j : Int) = (j : Int)) (g0 : ((p : Int) != 0) = true) (_g0n : (p != 0) = true) (g1 : ((q : Int) == (p : Int)) = false) (_g1n : (q == p) = false)
    (hQ : ∀ (w : World) , (True) → Below w0.heap.size w0 w → Q .normal { tmps := #[.slice (some ad) N cl, .int .i64 ((i : Int) + 1), c2, .int .i64 ((j : Int) + 1), c4, c5, c6, c7, c8, .bool false, .slice (some ad) N cl, .int .i64 ((i : Int) + 1), .int .i64 (i : Int), .pointer (some (ad.add (i * 6))), .pointer (some ⟨(ad.add (i * 6)).block, (ad.add (i * 6)).off + 5, none⟩), .int .i64 (p : Int), .bool true, .bool true, .slice (some ad) N cl, .int .i64 ((j : Int) + 1), .int .i64 (j : Int), .pointer (some (ad.add (j * 6))), .pointer (some ⟨(ad.add (j * 6)).block, (ad.add (j * 6)).off + 5, none⟩), .int .i64 (q : Int), .slice (some ad) N cl, .int .i64 ((i : Int) + 1), .int .i64 (i : Int), .pointer (some (ad.add (i * 6))), .pointer (some ⟨(ad.add (i * 6)).block, (ad.add (i * 6)).off + 5, none⟩), .int .i64 (p : Int), .bool false, .bool false, .bool false, undef, undef, undef, .bool false, .bool false, undef, undef, undef, .bool false, c42, c43, c44, c45, c46, c47, c48, c49, c50, c51, c52, c53, c54, c55, c56, c57, c58, c59, c60, c61, c62, c63, c64, c65, c66, c67, c68, c69, c70, c71, c72, c73, c74, c75, c76, c77, c78, c79, c80, c81, c82, c83, c84, c85, c86, c87, c88, c89, c90, c91, c92, c93, c94, c95, c96, c97, c98, c99, c100, c101, c102, c103, c104, c105, c106, c107, c108, c109, c110, c111, c112, c113, c114, c115, c116, c117, c118, c119, c120, c121, c122, c123, c124, c125, c126, c127, c128, c129, c130, c131, c132, c133, c134, c135, c136, c137, c138, c139, c140, c141, c142, c143, c144, c145, c146, c147, c148], defers := [] } w) :
    Code.wp Tryd.prog ((Tryd.f64.body.bind (regionOf 1)).getD .skip) Q { tmps := #[.slice (some ad) N cl, .int .i64 ((i : Int) + 1), c2, .int .i64 ((j : Int) + 1), c4, c5, c6, c7, c8, x9, x10, x11, x12, x13, x14, x15, x16, x17, x18, x19, x20, x21, x22, x23, x24, x25, x26, x27, x28, x29, x30, x31, x32, x33, x34, x35, x36, x37, x38, x39, x40, x41, c42, c43, c44, c45, c46, c47, c48, c49, c50, c51, c52, c53, c54, c55, c56, c57, c58, c59, c60, c61, c62, c63, c64, c65, c66, c67, c68, c69, c70, c71, c72, c73, c74, c75, c76, c77, c78, c79, c80, c81, c82, c83, c84, c85, c86, c87, c88, c89, c90, c91, c92, c93, c94, c95, c96, c97, c98, c99, c100, c101, c102, c103, c104, c105, c106, c107, c108, c109, c110, c111, c112, c113, c114, c115, c116, c117, c118, c119, c120, c121, c122, c123, c124, c125, c126, c127, c128, c129, c130, c131, c132, c133, c134, c135, c136, c137, c138, c139, c140, c141, c142, c143, c144, c145, c146, c147, c148], defers := [] } W := by
  conv => arg 2; whnf
  refine wp_region_inv (by kernel_rfl) (by kernel_rfl) (OnBI w0 ad N cl i j p q bm c2 c4 c5 c6 c7 c8 c42 c43 c44 c45 c46 c47 c48 c49 c50 c51 c52 c53 c54 c55 c56 c57 c58 c59 c60 c61 c62 c63 c64 c65 c66 c67 c68 c69 c70 c71 c72 c73 c74 c75 c76 c77 c78 c79 c80 c81 c82 c83 c84 c85 c86 c87 c88 c89 c90 c91 c92 c93 c94 c95 c96 c97 c98 c99 c100 c101 c102 c103 c104 c105 c106 c107 c108 c109 c110 c111 c112 c113 c114 c115 c116 c117 c118 c119 c120 c121 c122 c123 c124 c125 c126 c127 c128 c129 c130 c131 c132 c133 c134 c135 c136 c137 c138 c139 c140 c141 c142 c143 c144 c145 c146 c147 c148) ?_ ?_ ?_
  · exact ⟨_, _, _, _, _, _, _, _, _, _, _, _, _, _, _, _, _, _, _, _, _, _, _, _, _, _, _, _, _, _, _, _, _, rfl, fun h => absurd h l0, fun h => absurd h l0, fun h => absurd h l0, fun h => absurd h l0, fun h => absurd h l0, fun h => absurd h l0, fun h => absurd h l0, fun h => absurd h l0, fun h => absurd h l0, fun h => absurd h l0, fun h => absurd h l0, fun h => absurd h l0, fun h => absurd h l0, fun h => absurd h l0, fun h => absurd h l0, fun h => absurd h l0, fun h => absurd h l0, fun h => absurd h l0, fun h => absurd h l0, fun h => absurd h l0, fun h => absurd h l0, fun h => absurd h l0, fun h => absurd h l0, fun h => absurd h l0, fun h => absurd h l0, fun h => absurd h l0, fun h => absurd h l0, fun h => absurd h l0, fun h => absurd h l0, fun h => absurd h l0, fun h => absurd h l0, fun h => absurd h l0, fun h => absurd h l0, bdr hb0, C0, C1⟩
  · intro i o listed A w hi ho hd hn hI
    unfold OnBI at hI
    obtain ⟨s9, hI⟩ := hI
    obtain ⟨s10, hI⟩ := hI
    obtain ⟨s11, hI⟩ := hI
    obtain ⟨s12, hI⟩ := hI
    obtain ⟨s13, hI⟩ := hI
    obtain ⟨s14, hI⟩ := hI
    obtain ⟨s15, hI⟩ := hI
    obtain ⟨s16, hI⟩ := hI
    obtain ⟨s17, hI⟩ := hI
    obtain ⟨s18, hI⟩ := hI
    obtain ⟨s19, hI⟩ := hI
    obtain ⟨s20, hI⟩ := hI
    obtain ⟨s21, hI⟩ := hI
    obtain ⟨s22, hI⟩ := hI
    obtain ⟨s23, hI⟩ := hI
    obtain ⟨s24, hI⟩ := hI
    obtain ⟨s25, hI⟩ := hI
    obtain ⟨s26, hI⟩ := hI
    obtain ⟨s27, hI⟩ := hI
    obtain ⟨s28, hI⟩ := hI
    obtain ⟨s29, hI⟩ := hI
    obtain ⟨s30, hI⟩ := hI
    obtain ⟨s31, hI⟩ := hI
    obtain ⟨s32, hI⟩ := hI
    obtain ⟨s33, hI⟩ := hI
    obtain ⟨s34, hI⟩ := hI
    obtain ⟨s35, hI⟩ := hI
    obtain ⟨s36, hI⟩ := hI
    obtain ⟨s37, hI⟩ := hI
    obtain ⟨s38, hI⟩ := hI
    obtain ⟨s39, hI⟩ := hI
    obtain ⟨s40, hI⟩ := hI
    obtain ⟨s41, hI⟩ := hI
    obtain ⟨rfl, hI⟩ := hI
    obtain ⟨F0, hI⟩ := hI
    obtain ⟨F1, hI⟩ := hI
    obtain ⟨F2, hI⟩ := hI
    obtain ⟨F3, hI⟩ := hI
    obtain ⟨F4, hI⟩ := hI
    obtain ⟨F5, hI⟩ := hI
    obtain ⟨F6, hI⟩ := hI
    obtain ⟨F7, hI⟩ := hI
    obtain ⟨F8, hI⟩ := hI
    obtain ⟨F9, hI⟩ := hI
    obtain ⟨F10, hI⟩ := hI
    obtain ⟨F11, hI⟩ := hI
    obtain ⟨F12, hI⟩ := hI
    obtain ⟨F13, hI⟩ := hI
    obtain ⟨F14, hI⟩ := hI
    obtain ⟨F15, hI⟩ := hI
    obtain ⟨F16, hI⟩ := hI
    obtain ⟨F17, hI⟩ := hI
    obtain ⟨F18, hI⟩ := hI
    obtain ⟨F19, hI⟩ := hI
    obtain ⟨F20, hI⟩ := hI
    obtain ⟨F21, hI⟩ := hI
    obtain ⟨F22, hI⟩ := hI
    obtain ⟨F23, hI⟩ := hI
    obtain ⟨F24, hI⟩ := hI
    obtain ⟨F25, hI⟩ := hI
    obtain ⟨F26, hI⟩ := hI
    obtain ⟨F27, hI⟩ := hI
    obtain ⟨F28, hI⟩ := hI
    obtain ⟨F29, hI⟩ := hI
    obtain ⟨F30, hI⟩ := hI
    obtain ⟨F31, hI⟩ := hI
    obtain ⟨F32, hI⟩ := hI
    obtain ⟨F33, hI⟩ := hI
    obtain ⟨F34, hI⟩ := hI
    have F35 := hI; clear hI
    have hi' : i < 33 := hi
    clear hi
    rcases (by omega : i = 0 ∨ i = 1 ∨ i = 2 ∨ i = 3 ∨ i = 4 ∨ i = 5 ∨ i = 6 ∨ i = 7 ∨ i = 8 ∨ i = 9 ∨ i = 10 ∨ i = 11 ∨ i = 12 ∨ i = 13 ∨ i = 14 ∨ i = 15 ∨ i = 16 ∨ i = 17 ∨ i = 18 ∨ i = 19 ∨ i = 20 ∨ i = 21 ∨ i = 22 ∨ i = 23 ∨ i = 24 ∨ i = 25 ∨ i = 26 ∨ i = 27 ∨ i = 28 ∨ i = 29 ∨ i = 30 ∨ i = 31 ∨ i = 32) with rfl | rfl | rfl | rfl | rfl | rfl | rfl | rfl | rfl | rfl | rfl | rfl | rfl | rfl | rfl | rfl | rfl | rfl | rfl | rfl | rfl | rfl | rfl | rfl | rfl | rfl | rfl | rfl | rfl | rfl | rfl | rfl | rfl
    · simp only [List.getElem?_toArray, List.getElem?_cons_zero, Option.some.injEq] at ho
      subst ho
      refine wpOp_step rfl (fun K hK => ?_)
      go_simp
      refine hK _ _ ?_
      exact ⟨_, _, _, _, _, _, _, _, _, _, _, _, _, _, _, _, _, _, _, _, _, _, _, _, _, _, _, _, _, _, _, _, _, rfl, fun _ => rfl, lk F1, lk F2, lk F3, lk F4, lk F5, lk F6, lk F7, lk F8, lk F9, lk F10, lk F11, lk F12, lk F13, lk F14, lk F15, lk F16, lk F17, lk F18, lk F19, lk F20, lk F21, lk F22, lk F23, lk F24, lk F25, lk F26, lk F27, lk F28, lk F29, lk F30, lk F31, lk F32, F33, F34, F35⟩
    · simp only [List.getElem?_toArray, List.getElem?_cons_zero, List.getElem?_cons_succ, Option.some.injEq] at ho
      subst ho
      refine wpOp_step rfl (fun K hK => ?_)
      go_simp
      refine hK _ _ ?_
      exact ⟨_, _, _, _, _, _, _, _, _, _, _, _, _, _, _, _, _, _, _, _, _, _, _, _, _, _, _, _, _, _, _, _, _, rfl, lk F0, fun _ => rfl, lk F2, lk F3, lk F4, lk F5, lk F6, lk F7, lk F8, lk F9, lk F10, lk F11, lk F12, lk F13, lk F14, lk F15, lk F16, lk F17, lk F18, lk F19, lk F20, lk F21, lk F22, lk F23, lk F24, lk F25, lk F26, lk F27, lk F28, lk F29, lk F30, lk F31, lk F32, F33, F34, F35⟩
    · simp only [List.getElem?_toArray, List.getElem?_cons_zero, List.getElem?_cons_succ, Option.some.injEq] at ho
      subst ho
      obtain rfl := F1 (hd ⟨1, .data⟩ (by simp) rfl)
      refine wpOp_step rfl (fun K hK => ?_)
      go_simp
      try rw [wi]
      refine hK _ _ ?_
      exact ⟨_, _, _, _, _, _, _, _, _, _, _, _, _, _, _, _, _, _, _, _, _, _, _, _, _, _, _, _, _, _, _, _, _, rfl, lk F0, lk F1, fun _ => rfl, lk F3, lk F4, lk F5, lk F6, lk F7, lk F8, lk F9, lk F10, lk F11, lk F12, lk F13, lk F14, lk F15, lk F16, lk F17, lk F18, lk F19, lk F20, lk F21, lk F22, lk F23, lk F24, lk F25, lk F26, lk F27, lk F28, lk F29, lk F30, lk F31, lk F32, F33, F34, F35⟩
    · simp only [List.getElem?_toArray, List.getElem?_cons_zero, List.getElem?_cons_succ, Option.some.injEq] at ho
      subst ho
      obtain rfl := F0 (hd ⟨0, .data⟩ (by simp) rfl)
      obtain rfl := F2 (hd ⟨2, .data⟩ (by simp) rfl)
      refine wpOp_step rfl (fun K hK => ?_)
      go_simp
      refine hK _ _ ?_
      exact ⟨_, _, _, _, _, _, _, _, _, _, _, _, _, _, _, _, _, _, _, _, _, _, _, _, _, _, _, _, _, _, _, _, _, rfl, lk F0, lk F1, lk F2, fun _ => rfl, lk F4, lk F5, lk F6, lk F7, lk F8, lk F9, lk F10, lk F11, lk F12, lk F13, lk F14, lk F15, lk F16, lk F17, lk F18, lk F19, lk F20, lk F21, lk F22, lk F23, lk F24, lk F25, lk F26, lk F27, lk F28, lk F29, lk F30, lk F31, lk F32, F33, F34, F35⟩
    · simp only [List.getElem?_toArray, List.getElem?_cons_zero, List.getElem?_cons_succ, Option.some.injEq] at ho
      subst ho
      obtain rfl := F3 (hd ⟨3, .data⟩ (by simp) rfl)
      refine wpOp_step rfl (fun K hK => ?_)
      go_simp
      refine hK _ _ ?_
      exact ⟨_, _, _, _, _, _, _, _, _, _, _, _, _, _, _, _, _, _, _, _, _, _, _, _, _, _, _, _, _, _, _, _, _, rfl, lk F0, lk F1, lk F2, lk F3, fun _ => rfl, lk F5, lk F6, lk F7, lk F8, lk F9, lk F10, lk F11, lk F12, lk F13, lk F14, lk F15, lk F16, lk F17, lk F18, lk F19, lk F20, lk F21, lk F22, lk F23, lk F24, lk F25, lk F26, lk F27, lk F28, lk F29, lk F30, lk F31, lk F32, F33, F34, F35⟩
    · simp only [List.getElem?_toArray, List.getElem?_cons_zero, List.getElem?_cons_succ, Option.some.injEq] at ho
      subst ho
      obtain rfl := F4 (hd ⟨4, .data⟩ (by simp) rfl)
      have h0 := F34; have h1 := F35
      refine wpOp_step rfl (fun K hK => ?_)
      go_simp
      refine hK _ _ ?_
      exact ⟨_, _, _, _, _, _, _, _, _, _, _, _, _, _, _, _, _, _, _, _, _, _, _, _, _, _, _, _, _, _, _, _, _, rfl, lk F0, lk F1, lk F2, lk F3, lk F4, fun _ => rfl, lk F6, lk F7, lk F8, lk F9, lk F10, lk F11, lk F12, lk F13, lk F14, lk F15, lk F16, lk F17, lk F18, lk F19, lk F20, lk F21, lk F22, lk F23, lk F24, lk F25, lk F26, lk F27, lk F28, lk F29, lk F30, lk F31, lk F32, F33, F34, F35⟩
    · simp only [List.getElem?_toArray, List.getElem?_cons_zero, List.getElem?_cons_succ, Option.some.injEq] at ho
      subst ho
      obtain rfl := F5 (hd ⟨5, .data⟩ (by simp) rfl)
      refine wpOp_step rfl (fun K hK => ?_)
      go_simp
      refine hK _ _ ?_
      exact ⟨_, _, _, _, _, _, _, _, _, _, _, _, _, _, _, _, _, _, _, _, _, _, _, _, _, _, _, _, _, _, _, _, _, rfl, lk F0, lk F1, lk F2, lk F3, lk F4, lk F5, fun _ => rfl, lk F7, lk F8, lk F9, lk F10, lk F11, lk F12, lk F13, lk F14, lk F15, lk F16, lk F17, lk F18, lk F19, lk F20, lk F21, lk F22, lk F23, lk F24, lk F25, lk F26, lk F27, lk F28, lk F29, lk F30, lk F31, lk F32, F33, F34, F35⟩
    · simp only [List.getElem?_toArray, List.getElem?_cons_zero, List.getElem?_cons_succ, Option.some.injEq] at ho
      subst ho
      obtain rfl := F6 (hd ⟨6, .data⟩ (by simp) rfl)
      refine wpOp_step rfl (fun K hK => ?_)
      go_simp
      refine hK _ _ ?_
      exact ⟨_, _, _, _, _, _, _, _, _, _, _, _, _, _, _, _, _, _, _, _, _, _, _, _, _, _, _, _, _, _, _, _, _, rfl, lk F0, lk F1, lk F2, lk F3, lk F4, lk F5, lk F6, fun _ => rfl, lk F8, lk F9, lk F10, lk F11, lk F12, lk F13, lk F14, lk F15, lk F16, lk F17, lk F18, lk F19, lk F20, lk F21, lk F22, lk F23, lk F24, lk F25, lk F26, lk F27, lk F28, lk F29, lk F30, lk F31, lk F32, F33, F34, F35⟩
    · simp only [List.getElem?_toArray, List.getElem?_cons_zero, List.getElem?_cons_succ, Option.some.injEq] at ho
      subst ho
      obtain rfl := F7 (hd ⟨7, .guard⟩ (by simp) rfl)
      refine wpOp_step rfl (fun K hK => ?_)
      go_simp
      refine hK _ _ ?_
      exact ⟨_, _, _, _, _, _, _, _, _, _, _, _, _, _, _, _, _, _, _, _, _, _, _, _, _, _, _, _, _, _, _, _, _, rfl, lk F0, lk F1, lk F2, lk F3, lk F4, lk F5, lk F6, lk F7, fun _ => rfl, lk F9, lk F10, lk F11, lk F12, lk F13, lk F14, lk F15, lk F16, lk F17, lk F18, lk F19, lk F20, lk F21, lk F22, lk F23, lk F24, lk F25, lk F26, lk F27, lk F28, lk F29, lk F30, lk F31, lk F32, F33, F34, F35⟩
    · simp only [List.getElem?_toArray, List.getElem?_cons_zero, List.getElem?_cons_succ, Option.some.injEq] at ho
      subst ho
      obtain rfl := F7 (hd ⟨7, .guard⟩ (by simp) rfl)
      refine wpOp_step rfl (fun K hK => ?_)
      go_simp
      refine hK _ _ ?_
      exact ⟨_, _, _, _, _, _, _, _, _, _, _, _, _, _, _, _, _, _, _, _, _, _, _, _, _, _, _, _, _, _, _, _, _, rfl, lk F0, lk F1, lk F2, lk F3, lk F4, lk F5, lk F6, lk F7, lk F8, fun _ => rfl, lk F10, lk F11, lk F12, lk F13, lk F14, lk F15, lk F16, lk F17, lk F18, lk F19, lk F20, lk F21, lk F22, lk F23, lk F24, lk F25, lk F26, lk F27, lk F28, lk F29, lk F30, lk F31, lk F32, F33, F34, F35⟩
    · simp only [List.getElem?_toArray, List.getElem?_cons_zero, List.getElem?_cons_succ, Option.some.injEq] at ho
      subst ho
      obtain rfl := F9 (hd ⟨9, .data⟩ (by simp) rfl)
      obtain rfl := F7 (hd ⟨7, .guard⟩ (by simp) rfl)
      refine wpOp_step rfl (fun K hK => ?_)
      go_simp
      try rw [wj]
      refine hK _ _ ?_
      exact ⟨_, _, _, _, _, _, _, _, _, _, _, _, _, _, _, _, _, _, _, _, _, _, _, _, _, _, _, _, _, _, _, _, _, rfl, lk F0, lk F1, lk F2, lk F3, lk F4, lk F5, lk F6, lk F7, lk F8, lk F9, fun _ => rfl, lk F11, lk F12, lk F13, lk F14, lk F15, lk F16, lk F17, lk F18, lk F19, lk F20, lk F21, lk F22, lk F23, lk F24, lk F25, lk F26, lk F27, lk F28, lk F29, lk F30, lk F31, lk F32, F33, F34, F35⟩
    · simp only [List.getElem?_toArray, List.getElem?_cons_zero, List.getElem?_cons_succ, Option.some.injEq] at ho
      subst ho
      obtain rfl := F8 (hd ⟨8, .data⟩ (by simp) rfl)
      obtain rfl := F10 (hd ⟨10, .data⟩ (by simp) rfl)
      obtain rfl := F7 (hd ⟨7, .guard⟩ (by simp) rfl)
      refine wpOp_step rfl (fun K hK => ?_)
      go_simp
      refine hK _ _ ?_
      exact ⟨_, _, _, _, _, _, _, _, _, _, _, _, _, _, _, _, _, _, _, _, _, _, _, _, _, _, _, _, _, _, _, _, _, rfl, lk F0, lk F1, lk F2, lk F3, lk F4, lk F5, lk F6, lk F7, lk F8, lk F9, lk F10, fun _ => rfl, lk F12, lk F13, lk F14, lk F15, lk F16, lk F17, lk F18, lk F19, lk F20, lk F21, lk F22, lk F23, lk F24, lk F25, lk F26, lk F27, lk F28, lk F29, lk F30, lk F31, lk F32, F33, F34, F35⟩
    · simp only [List.getElem?_toArray, List.getElem?_cons_zero, List.getElem?_cons_succ, Option.some.injEq] at ho
      subst ho
      obtain rfl := F11 (hd ⟨11, .data⟩ (by simp) rfl)
      obtain rfl := F7 (hd ⟨7, .guard⟩ (by simp) rfl)
      refine wpOp_step rfl (fun K hK => ?_)
      go_simp
      refine hK _ _ ?_
      exact ⟨_, _, _, _, _, _, _, _, _, _, _, _, _, _, _, _, _, _, _, _, _, _, _, _, _, _, _, _, _, _, _, _, _, rfl, lk F0, lk F1, lk F2, lk F3, lk F4, lk F5, lk F6, lk F7, lk F8, lk F9, lk F10, lk F11, fun _ => rfl, lk F13, lk F14, lk F15, lk F16, lk F17, lk F18, lk F19, lk F20, lk F21, lk F22, lk F23, lk F24, lk F25, lk F26, lk F27, lk F28, lk F29, lk F30, lk F31, lk F32, F33, F34, F35⟩
    · simp only [List.getElem?_toArray, List.getElem?_cons_zero, List.getElem?_cons_succ, Option.some.injEq] at ho
      subst ho
      obtain rfl := F12 (hd ⟨12, .data⟩ (by simp) rfl)
      obtain rfl := F7 (hd ⟨7, .guard⟩ (by simp) rfl)
      have h0 := F34; have h1 := F35
      refine wpOp_step rfl (fun K hK => ?_)
      go_simp
      refine hK _ _ ?_
      exact ⟨_, _, _, _, _, _, _, _, _, _, _, _, _, _, _, _, _, _, _, _, _, _, _, _, _, _, _, _, _, _, _, _, _, rfl, lk F0, lk F1, lk F2, lk F3, lk F4, lk F5, lk F6, lk F7, lk F8, lk F9, lk F10, lk F11, lk F12, fun _ => rfl, lk F14, lk F15, lk F16, lk F17, lk F18, lk F19, lk F20, lk F21, lk F22, lk F23, lk F24, lk F25, lk F26, lk F27, lk F28, lk F29, lk F30, lk F31, lk F32, F33, F34, F35⟩
    · simp only [List.getElem?_toArray, List.getElem?_cons_zero, List.getElem?_cons_succ, Option.some.injEq] at ho
      subst ho
      obtain rfl := F7 (hd ⟨7, .guard⟩ (by simp) rfl)
      refine wpOp_step rfl (fun K hK => ?_)
      go_simp
      refine hK _ _ ?_
      exact ⟨_, _, _, _, _, _, _, _, _, _, _, _, _, _, _, _, _, _, _, _, _, _, _, _, _, _, _, _, _, _, _, _, _, rfl, lk F0, lk F1, lk F2, lk F3, lk F4, lk F5, lk F6, lk F7, lk F8, lk F9, lk F10, lk F11, lk F12, lk F13, fun _ => rfl, lk F15, lk F16, lk F17, lk F18, lk F19, lk F20, lk F21, lk F22, lk F23, lk F24, lk F25, lk F26, lk F27, lk F28, lk F29, lk F30, lk F31, lk F32, F33, F34, F35⟩
    · simp only [List.getElem?_toArray, List.getElem?_cons_zero, List.getElem?_cons_succ, Option.some.injEq] at ho
      subst ho
      obtain rfl := F7 (hd ⟨7, .guard⟩ (by simp) rfl)
      refine wpOp_step rfl (fun K hK => ?_)
      go_simp
      refine hK _ _ ?_
      exact ⟨_, _, _, _, _, _, _, _, _, _, _, _, _, _, _, _, _, _, _, _, _, _, _, _, _, _, _, _, _, _, _, _, _, rfl, lk F0, lk F1, lk F2, lk F3, lk F4, lk F5, lk F6, lk F7, lk F8, lk F9, lk F10, lk F11, lk F12, lk F13, lk F14, fun _ => rfl, lk F16, lk F17, lk F18, lk F19, lk F20, lk F21, lk F22, lk F23, lk F24, lk F25, lk F26, lk F27, lk F28, lk F29, lk F30, lk F31, lk F32, F33, F34, F35⟩
    · simp only [List.getElem?_toArray, List.getElem?_cons_zero, List.getElem?_cons_succ, Option.some.injEq] at ho
      subst ho
      obtain rfl := F15 (hd ⟨15, .data⟩ (by simp) rfl)
      obtain rfl := F7 (hd ⟨7, .guard⟩ (by simp) rfl)
      refine wpOp_step rfl (fun K hK => ?_)
      go_simp
      try rw [wi]
      refine hK _ _ ?_
      exact ⟨_, _, _, _, _, _, _, _, _, _, _, _, _, _, _, _, _, _, _, _, _, _, _, _, _, _, _, _, _, _, _, _, _, rfl, lk F0, lk F1, lk F2, lk F3, lk F4, lk F5, lk F6, lk F7, lk F8, lk F9, lk F10, lk F11, lk F12, lk F13, lk F14, lk F15, fun _ => rfl, lk F17, lk F18, lk F19, lk F20, lk F21, lk F22, lk F23, lk F24, lk F25, lk F26, lk F27, lk F28, lk F29, lk F30, lk F31, lk F32, F33, F34, F35⟩
    · simp only [List.getElem?_toArray, List.getElem?_cons_zero, List.getElem?_cons_succ, Option.some.injEq] at ho
      subst ho
      obtain rfl := F14 (hd ⟨14, .data⟩ (by simp) rfl)
      obtain rfl := F16 (hd ⟨16, .data⟩ (by simp) rfl)
      obtain rfl := F7 (hd ⟨7, .guard⟩ (by simp) rfl)
      refine wpOp_step rfl (fun K hK => ?_)
      go_simp
      refine hK _ _ ?_
      exact ⟨_, _, _, _, _, _, _, _, _, _, _, _, _, _, _, _, _, _, _, _, _, _, _, _, _, _, _, _, _, _, _, _, _, rfl, lk F0, lk F1, lk F2, lk F3, lk F4, lk F5, lk F6, lk F7, lk F8, lk F9, lk F10, lk F11, lk F12, lk F13, lk F14, lk F15, lk F16, fun _ => rfl, lk F18, lk F19, lk F20, lk F21, lk F22, lk F23, lk F24, lk F25, lk F26, lk F27, lk F28, lk F29, lk F30, lk F31, lk F32, F33, F34, F35⟩
    · simp only [List.getElem?_toArray, List.getElem?_cons_zero, List.getElem?_cons_succ, Option.some.injEq] at ho
      subst ho
      obtain rfl := F17 (hd ⟨17, .data⟩ (by simp) rfl)
      obtain rfl := F7 (hd ⟨7, .guard⟩ (by simp) rfl)
      refine wpOp_step rfl (fun K hK => ?_)
      go_simp
      refine hK _ _ ?_
      exact ⟨_, _, _, _, _, _, _, _, _, _, _, _, _, _, _, _, _, _, _, _, _, _, _, _, _, _, _, _, _, _, _, _, _, rfl, lk F0, lk F1, lk F2, lk F3, lk F4, lk F5, lk F6, lk F7, lk F8, lk F9, lk F10, lk F11, lk F12, lk F13, lk F14, lk F15, lk F16, lk F17, fun _ => rfl, lk F19, lk F20, lk F21, lk F22, lk F23, lk F24, lk F25, lk F26, lk F27, lk F28, lk F29, lk F30, lk F31, lk F32, F33, F34, F35⟩
    · simp only [List.getElem?_toArray, List.getElem?_cons_zero, List.getElem?_cons_succ, Option.some.injEq] at ho
      subst ho
      obtain rfl := F18 (hd ⟨18, .data⟩ (by simp) rfl)
      obtain rfl := F7 (hd ⟨7, .guard⟩ (by simp) rfl)
      have h0 := F34; have h1 := F35
      refine wpOp_step rfl (fun K hK => ?_)
      go_simp
      refine hK _ _ ?_
      exact ⟨_, _, _, _, _, _, _, _, _, _, _, _, _, _, _, _, _, _, _, _, _, _, _, _, _, _, _, _, _, _, _, _, _, rfl, lk F0, lk F1, lk F2, lk F3, lk F4, lk F5, lk F6, lk F7, lk F8, lk F9, lk F10, lk F11, lk F12, lk F13, lk F14, lk F15, lk F16, lk F17, lk F18, fun _ => rfl, lk F20, lk F21, lk F22, lk F23, lk F24, lk F25, lk F26, lk F27, lk F28, lk F29, lk F30, lk F31, lk F32, F33, F34, F35⟩
    · simp only [List.getElem?_toArray, List.getElem?_cons_zero, List.getElem?_cons_succ, Option.some.injEq] at ho
      subst ho
      obtain rfl := F13 (hd ⟨13, .data⟩ (by simp) rfl)
      obtain rfl := F19 (hd ⟨19, .data⟩ (by simp) rfl)
      obtain rfl := F7 (hd ⟨7, .guard⟩ (by simp) rfl)
      refine wpOp_step rfl (fun K hK => ?_)
      go_simp
      refine hK _ _ ?_
      exact ⟨_, _, _, _, _, _, _, _, _, _, _, _, _, _, _, _, _, _, _, _, _, _, _, _, _, _, _, _, _, _, _, _, _, rfl, lk F0, lk F1, lk F2, lk F3, lk F4, lk F5, lk F6, lk F7, lk F8, lk F9, lk F10, lk F11, lk F12, lk F13, lk F14, lk F15, lk F16, lk F17, lk F18, lk F19, fun _ => rfl, lk F21, lk F22, lk F23, lk F24, lk F25, lk F26, lk F27, lk F28, lk F29, lk F30, lk F31, lk F32, F33, F34, F35⟩
    · simp only [List.getElem?_toArray, List.getElem?_cons_zero, List.getElem?_cons_succ, Option.some.injEq] at ho
      subst ho
      obtain rfl := F7 (hd ⟨7, .data⟩ (by simp) rfl)
      obtain rfl := F20 (hd ⟨20, .data⟩ (by simp) rfl)
      refine wpOp_step rfl (fun K hK => ?_)
      go_simp
      refine hK _ _ ?_
      exact ⟨_, _, _, _, _, _, _, _, _, _, _, _, _, _, _, _, _, _, _, _, _, _, _, _, _, _, _, _, _, _, _, _, _, rfl, lk F0, lk F1, lk F2, lk F3, lk F4, lk F5, lk F6, lk F7, lk F8, lk F9, lk F10, lk F11, lk F12, lk F13, lk F14, lk F15, lk F16, lk F17, lk F18, lk F19, lk F20, fun _ => rfl, lk F22, lk F23, lk F24, lk F25, lk F26, lk F27, lk F28, lk F29, lk F30, lk F31, lk F32, F33, F34, F35⟩
    · simp only [List.getElem?_toArray, List.getElem?_cons_zero, List.getElem?_cons_succ, Option.some.injEq] at ho
      subst ho
      obtain rfl := F21 (hd ⟨21, .data⟩ (by simp) rfl)
      refine wpOp_step rfl (fun K hK => ?_)
      go_simp
      refine hK _ _ ?_
      exact ⟨_, _, _, _, _, _, _, _, _, _, _, _, _, _, _, _, _, _, _, _, _, _, _, _, _, _, _, _, _, _, _, _, _, rfl, lk F0, lk F1, lk F2, lk F3, lk F4, lk F5, lk F6, lk F7, lk F8, lk F9, lk F10, lk F11, lk F12, lk F13, lk F14, lk F15, lk F16, lk F17, lk F18, lk F19, lk F20, lk F21, fun _ => rfl, lk F23, lk F24, lk F25, lk F26, lk F27, lk F28, lk F29, lk F30, lk F31, lk F32, F33, F34, F35⟩
    · simp only [List.getElem?_toArray, List.getElem?_cons_zero, List.getElem?_cons_succ, Option.some.injEq] at ho
      subst ho
      obtain rfl := F22 (hd ⟨22, .guard⟩ (by simp) rfl)
      refine wpOp_step rfl (fun K hK => ?_)
      go_simp
      refine hK _ _ ?_
      exact ⟨_, _, _, _, _, _, _, _, _, _, _, _, _, _, _, _, _, _, _, _, _, _, _, _, _, _, _, _, _, _, _, _, _, rfl, lk F0, lk F1, lk F2, lk F3, lk F4, lk F5, lk F6, lk F7, lk F8, lk F9, lk F10, lk F11, lk F12, lk F13, lk F14, lk F15, lk F16, lk F17, lk F18, lk F19, lk F20, lk F21, lk F22, fun _ => rfl, lk F24, lk F25, lk F26, lk F27, lk F28, lk F29, lk F30, lk F31, lk F32, F33, F34, F35⟩
    · simp only [List.getElem?_toArray, List.getElem?_cons_zero, List.getElem?_cons_succ, Option.some.injEq] at ho
      subst ho
      obtain rfl := F22 (hd ⟨22, .guard⟩ (by simp) rfl)
      refine wpOp_step rfl (fun K hK => ?_)
      go_simp
      refine hK _ _ ?_
      exact ⟨_, _, _, _, _, _, _, _, _, _, _, _, _, _, _, _, _, _, _, _, _, _, _, _, _, _, _, _, _, _, _, _, _, rfl, lk F0, lk F1, lk F2, lk F3, lk F4, lk F5, lk F6, lk F7, lk F8, lk F9, lk F10, lk F11, lk F12, lk F13, lk F14, lk F15, lk F16, lk F17, lk F18, lk F19, lk F20, lk F21, lk F22, lk F23, fun _ => rfl, lk F25, lk F26, lk F27, lk F28, lk F29, lk F30, lk F31, lk F32, F33, F34, F35⟩
    · simp only [List.getElem?_toArray, List.getElem?_cons_zero, List.getElem?_cons_succ, Option.some.injEq] at ho
      subst ho
      obtain rfl := F22 (hd ⟨22, .guard⟩ (by simp) rfl)
      refine wpOp_step rfl (fun K hK => ?_)
      go_simp
      refine hK _ _ ?_
      exact ⟨_, _, _, _, _, _, _, _, _, _, _, _, _, _, _, _, _, _, _, _, _, _, _, _, _, _, _, _, _, _, _, _, _, rfl, lk F0, lk F1, lk F2, lk F3, lk F4, lk F5, lk F6, lk F7, lk F8, lk F9, lk F10, lk F11, lk F12, lk F13, lk F14, lk F15, lk F16, lk F17, lk F18, lk F19, lk F20, lk F21, lk F22, lk F23, lk F24, fun _ => rfl, lk F26, lk F27, lk F28, lk F29, lk F30, lk F31, lk F32, F33, F34, F35⟩
    · simp only [List.getElem?_toArray, List.getElem?_cons_zero, List.getElem?_cons_succ, Option.some.injEq] at ho
      subst ho
      obtain rfl := F22 (hd ⟨22, .data⟩ (by simp) rfl)
      refine wpOp_step rfl (fun K hK => ?_)
      go_simp
      refine hK _ _ ?_
      exact ⟨_, _, _, _, _, _, _, _, _, _, _, _, _, _, _, _, _, _, _, _, _, _, _, _, _, _, _, _, _, _, _, _, _, rfl, lk F0, lk F1, lk F2, lk F3, lk F4, lk F5, lk F6, lk F7, lk F8, lk F9, lk F10, lk F11, lk F12, lk F13, lk F14, lk F15, lk F16, lk F17, lk F18, lk F19, lk F20, lk F21, lk F22, lk F23, lk F24, lk F25, fun _ => rfl, lk F27, lk F28, lk F29, lk F30, lk F31, lk F32, F33, F34, F35⟩
    · simp only [List.getElem?_toArray, List.getElem?_cons_zero, List.getElem?_cons_succ, Option.some.injEq] at ho
      subst ho
      obtain rfl := F26 (hd ⟨26, .data⟩ (by simp) rfl)
      refine wpOp_step rfl (fun K hK => ?_)
      go_simp
      refine hK _ _ ?_
      exact ⟨_, _, _, _, _, _, _, _, _, _, _, _, _, _, _, _, _, _, _, _, _, _, _, _, _, _, _, _, _, _, _, _, _, rfl, lk F0, lk F1, lk F2, lk F3, lk F4, lk F5, lk F6, lk F7, lk F8, lk F9, lk F10, lk F11, lk F12, lk F13, lk F14, lk F15, lk F16, lk F17, lk F18, lk F19, lk F20, lk F21, lk F22, lk F23, lk F24, lk F25, lk F26, fun _ => rfl, lk F28, lk F29, lk F30, lk F31, lk F32, F33, F34, F35⟩
    · simp only [List.getElem?_toArray, List.getElem?_cons_zero, List.getElem?_cons_succ, Option.some.injEq] at ho
      subst ho
      obtain rfl := F27 (hd ⟨27, .guard⟩ (by simp) rfl)
      refine wpOp_step rfl (fun K hK => ?_)
      go_simp
      refine hK _ _ ?_
      exact ⟨_, _, _, _, _, _, _, _, _, _, _, _, _, _, _, _, _, _, _, _, _, _, _, _, _, _, _, _, _, _, _, _, _, rfl, lk F0, lk F1, lk F2, lk F3, lk F4, lk F5, lk F6, lk F7, lk F8, lk F9, lk F10, lk F11, lk F12, lk F13, lk F14, lk F15, lk F16, lk F17, lk F18, lk F19, lk F20, lk F21, lk F22, lk F23, lk F24, lk F25, lk F26, lk F27, fun _ => rfl, lk F29, lk F30, lk F31, lk F32, F33, F34, F35⟩
    · simp only [List.getElem?_toArray, List.getElem?_cons_zero, List.getElem?_cons_succ, Option.some.injEq] at ho
      subst ho
      obtain rfl := F27 (hd ⟨27, .guard⟩ (by simp) rfl)
      refine wpOp_step rfl (fun K hK => ?_)
      go_simp
      refine hK _ _ ?_
      exact ⟨_, _, _, _, _, _, _, _, _, _, _, _, _, _, _, _, _, _, _, _, _, _, _, _, _, _, _, _, _, _, _, _, _, rfl, lk F0, lk F1, lk F2, lk F3, lk F4, lk F5, lk F6, lk F7, lk F8, lk F9, lk F10, lk F11, lk F12, lk F13, lk F14, lk F15, lk F16, lk F17, lk F18, lk F19, lk F20, lk F21, lk F22, lk F23, lk F24, lk F25, lk F26, lk F27, lk F28, fun _ => rfl, lk F30, lk F31, lk F32, F33, F34, F35⟩
    · simp only [List.getElem?_toArray, List.getElem?_cons_zero, List.getElem?_cons_succ, Option.some.injEq] at ho
      subst ho
      obtain rfl := F27 (hd ⟨27, .guard⟩ (by simp) rfl)
      refine wpOp_step rfl (fun K hK => ?_)
      go_simp
      refine hK _ _ ?_
      exact ⟨_, _, _, _, _, _, _, _, _, _, _, _, _, _, _, _, _, _, _, _, _, _, _, _, _, _, _, _, _, _, _, _, _, rfl, lk F0, lk F1, lk F2, lk F3, lk F4, lk F5, lk F6, lk F7, lk F8, lk F9, lk F10, lk F11, lk F12, lk F13, lk F14, lk F15, lk F16, lk F17, lk F18, lk F19, lk F20, lk F21, lk F22, lk F23, lk F24, lk F25, lk F26, lk F27, lk F28, lk F29, fun _ => rfl, lk F31, lk F32, F33, F34, F35⟩
    · simp only [List.getElem?_toArray, List.getElem?_cons_zero, List.getElem?_cons_succ, Option.some.injEq] at ho
      subst ho
      obtain rfl := F27 (hd ⟨27, .data⟩ (by simp) rfl)
      refine wpOp_step rfl (fun K hK => ?_)
      go_simp
      refine hK _ _ ?_
      exact ⟨_, _, _, _, _, _, _, _, _, _, _, _, _, _, _, _, _, _, _, _, _, _, _, _, _, _, _, _, _, _, _, _, _, rfl, lk F0, lk F1, lk F2, lk F3, lk F4, lk F5, lk F6, lk F7, lk F8, lk F9, lk F10, lk F11, lk F12, lk F13, lk F14, lk F15, lk F16, lk F17, lk F18, lk F19, lk F20, lk F21, lk F22, lk F23, lk F24, lk F25, lk F26, lk F27, lk F28, lk F29, lk F30, fun _ => rfl, lk F32, F33, F34, F35⟩
    · simp only [List.getElem?_toArray, List.getElem?_cons_zero, List.getElem?_cons_succ, Option.some.injEq] at ho
      subst ho
      obtain rfl := F31 (hd ⟨31, .data⟩ (by simp) rfl)
      refine wpOp_step rfl (fun K hK => ?_)
      go_simp
      refine hK _ _ ?_
      exact ⟨_, _, _, _, _, _, _, _, _, _, _, _, _, _, _, _, _, _, _, _, _, _, _, _, _, _, _, _, _, _, _, _, _, rfl, lk F0, lk F1, lk F2, lk F3, lk F4, lk F5, lk F6, lk F7, lk F8, lk F9, lk F10, lk F11, lk F12, lk F13, lk F14, lk F15, lk F16, lk F17, lk F18, lk F19, lk F20, lk F21, lk F22, lk F23, lk F24, lk F25, lk F26, lk F27, lk F28, lk F29, lk F30, lk F31, fun _ => rfl, F33, F34, F35⟩
  · intro listed A w hall hI
    unfold OnBI at hI
    obtain ⟨s9, hI⟩ := hI
    obtain ⟨s10, hI⟩ := hI
    obtain ⟨s11, hI⟩ := hI
    obtain ⟨s12, hI⟩ := hI
    obtain ⟨s13, hI⟩ := hI
    obtain ⟨s14, hI⟩ := hI
    obtain ⟨s15, hI⟩ := hI
    obtain ⟨s16, hI⟩ := hI
    obtain ⟨s17, hI⟩ := hI
    obtain ⟨s18, hI⟩ := hI
    obtain ⟨s19, hI⟩ := hI
    obtain ⟨s20, hI⟩ := hI
    obtain ⟨s21, hI⟩ := hI
    obtain ⟨s22, hI⟩ := hI
    obtain ⟨s23, hI⟩ := hI
    obtain ⟨s24, hI⟩ := hI
    obtain ⟨s25, hI⟩ := hI
    obtain ⟨s26, hI⟩ := hI
    obtain ⟨s27, hI⟩ := hI
    obtain ⟨s28, hI⟩ := hI
    obtain ⟨s29, hI⟩ := hI
    obtain ⟨s30, hI⟩ := hI
    obtain ⟨s31, hI⟩ := hI
    obtain ⟨s32, hI⟩ := hI
    obtain ⟨s33, hI⟩ := hI
    obtain ⟨s34, hI⟩ := hI
    obtain ⟨s35, hI⟩ := hI
    obtain ⟨s36, hI⟩ := hI
    obtain ⟨s37, hI⟩ := hI
    obtain ⟨s38, hI⟩ := hI
    obtain ⟨s39, hI⟩ := hI
    obtain ⟨s40, hI⟩ := hI
    obtain ⟨s41, hI⟩ := hI
    obtain ⟨rfl, hI⟩ := hI
    obtain ⟨F0, hI⟩ := hI
    obtain ⟨F1, hI⟩ := hI
    obtain ⟨F2, hI⟩ := hI
    obtain ⟨F3, hI⟩ := hI
    obtain ⟨F4, hI⟩ := hI
    obtain ⟨F5, hI⟩ := hI
    obtain ⟨F6, hI⟩ := hI
    obtain ⟨F7, hI⟩ := hI
    obtain ⟨F8, hI⟩ := hI
    obtain ⟨F9, hI⟩ := hI
    obtain ⟨F10, hI⟩ := hI
    obtain ⟨F11, hI⟩ := hI
    obtain ⟨F12, hI⟩ := hI
    obtain ⟨F13, hI⟩ := hI
    obtain ⟨F14, hI⟩ := hI
    obtain ⟨F15, hI⟩ := hI
    obtain ⟨F16, hI⟩ := hI
    obtain ⟨F17, hI⟩ := hI
    obtain ⟨F18, hI⟩ := hI
    obtain ⟨F19, hI⟩ := hI
    obtain ⟨F20, hI⟩ := hI
    obtain ⟨F21, hI⟩ := hI
    obtain ⟨F22, hI⟩ := hI
    obtain ⟨F23, hI⟩ := hI
    obtain ⟨F24, hI⟩ := hI
    obtain ⟨F25, hI⟩ := hI
    obtain ⟨F26, hI⟩ := hI
    obtain ⟨F27, hI⟩ := hI
    obtain ⟨F28, hI⟩ := hI
    obtain ⟨F29, hI⟩ := hI
    obtain ⟨F30, hI⟩ := hI
    obtain ⟨F31, hI⟩ := hI
    obtain ⟨F32, hI⟩ := hI
    obtain ⟨F33, hI⟩ := hI
    obtain ⟨F34, hI⟩ := hI
    have F35 := hI; clear hI
    obtain rfl := F0 (hall 0 (by decide))
    obtain rfl := F1 (hall 1 (by decide))
    obtain rfl := F2 (hall 2 (by decide))
    obtain rfl := F3 (hall 3 (by decide))
    obtain rfl := F4 (hall 4 (by decide))
    obtain rfl := F5 (hall 5 (by decide))
    obtain rfl := F6 (hall 6 (by decide))
    obtain rfl := F7 (hall 7 (by decide))
    obtain rfl := F8 (hall 8 (by decide))
    obtain rfl := F9 (hall 9 (by decide))
    obtain rfl := F10 (hall 10 (by decide))
    obtain rfl := F11 (hall 11 (by decide))
    obtain rfl := F12 (hall 12 (by decide))
    obtain rfl := F13 (hall 13 (by decide))
    obtain rfl := F14 (hall 14 (by decide))
    obtain rfl := F15 (hall 15 (by decide))
    obtain rfl := F16 (hall 16 (by decide))
    obtain rfl := F17 (hall 17 (by decide))
    obtain rfl := F18 (hall 18 (by decide))
    obtain rfl := F19 (hall 19 (by decide))
    obtain rfl := F20 (hall 20 (by decide))
    obtain rfl := F21 (hall 21 (by decide))
    obtain rfl := F22 (hall 22 (by decide))
    obtain rfl := F23 (hall 23 (by decide))
    obtain rfl := F24 (hall 24 (by decide))
    obtain rfl := F25 (hall 25 (by decide))
    obtain rfl := F26 (hall 26 (by decide))
    obtain rfl := F27 (hall 27 (by decide))
    obtain rfl := F28 (hall 28 (by decide))
    obtain rfl := F29 (hall 29 (by decide))
    obtain rfl := F30 (hall 30 (by decide))
    obtain rfl := F31 (hall 31 (by decide))
    obtain rfl := F32 (hall 32 (by decide))
    have HB := F33
    have Q0 := F34
    have Q1 := F35
    exact hQ _ trivial HB
def OnCI (w0 : World) (ad : Addr) (N cl i j p _q : Nat) (_bm : Bool) (c2 c4 c5 c6 c7 c8 c42 c43 c44 c45 c46 c47 c48 c49 c50 c51 c52 c53 c54 c55 c56 c57 c58 c59 c60 c61 c62 c63 c64 c65 c66 c67 c68 c69 c70 c71 c72 c73 c74 c75 c76 c77 c78 c79 c80 c81 c82 c83 c84 c85 c86 c87 c88 c89 c90 c91 c92 c93 c94 c95 c96 c97 c98 c99 c100 c101 c102 c103 c104 c105 c106 c107 c108 c109 c110 c111 c112 c113 c114 c115 c116 c117 c118 c119 c120 c121 c122 c123 c124 c125 c126 c127 c128 c129 c130 c131 c132 c133 c134 c135 c136 c137 c138 c139 c140 c141 c142 c143 c144 c145 c146 c147 c148 : Value) (listed : Array Bool) (A : Act) (w : World) : Prop := ∃ (s9 s10 s11 s12 s13 s14 s15 s16 s17 s18 s19 s20 s21 s22 s23 s24 s25 s26 s27 s28 s29 s30 s31 s32 s33 s34 s35 s36 s37 s38 s39 s40 s41 : Value), A = { tmps := #[.slice (some ad) N cl, .int .i64 ((i : Int) + 1), c2, .int .i64 ((j : Int) + 1), c4, c5, c6, c7, c8, s9, s10, s11, s12, s13, s14, s15, s16, s17, s18, s19, s20, s21, s22, s23, s24, s25, s26, s27, s28, s29, s30, s31, s32, s33, s34, s35, s36, s37, s38, s39, s40, s41, c42, c43, c44, c45, c46, c47, c48, c49, c50, c51, c52, c53, c54, c55, c56, c57, c58, c59, c60, c61, c62, c63, c64, c65, c66, c67, c68, c69, c70, c71, c72, c73, c74, c75, c76, c77, c78, c79, c80, c81, c82, c83, c84, c85, c86, c87, c88, c89, c90, c91, c92, c93, c94, c95, c96, c97, c98, c99, c100, c101, c102, c103, c104, c105, c106, c107, c108, c109, c110, c111, c112, c113, c114, c115, c116, c117, c118, c119, c120, c121, c122, c123, c124, c125, c126, c127, c128, c129, c130, c131, c132, c133, c134, c135, c136, c137, c138, c139, c140, c141, c142, c143, c144, c145, c146, c147, c148], defers := [] } ∧
  (listed.getD 0 false = true → s10 = .slice (some ad) N cl) ∧
  (listed.getD 1 false = true → s11 = .int .i64 ((i : Int) + 1)) ∧
  (listed.getD 2 false = true → s12 = .int .i64 (i : Int)) ∧
  (listed.getD 3 false = true → s13 = .pointer (some (ad.add (i * 6)))) ∧
  (listed.getD 4 false = true → s14 = .pointer (some ⟨(ad.add (i * 6)).block, (ad.add (i * 6)).off + 5, none⟩)) ∧
  (listed.getD 5 false = true → s15 = .int .i64 (p : Int)) ∧
  (listed.getD 6 false = true → s16 = .bool true) ∧
  (listed.getD 7 false = true → s17 = .bool true) ∧
  (listed.getD 8 false = true → s18 = .slice (some ad) N cl) ∧
  (listed.getD 9 false = true → s19 = .int .i64 ((j : Int) + 1)) ∧
  (listed.getD 10 false = true → s20 = .int .i64 (j : Int)) ∧
  (listed.getD 11 false = true → s21 = .pointer (some (ad.add (j * 6)))) ∧
  (listed.getD 12 false = true → s22 = .pointer (some ⟨(ad.add (j * 6)).block, (ad.add (j * 6)).off + 5, none⟩)) ∧
  (listed.getD 13 false = true → s23 = .int .i64 (p : Int)) ∧
  (listed.getD 14 false = true → s24 = .slice (some ad) N cl) ∧
  (listed.getD 15 false = true → s25 = .int .i64 ((i : Int) + 1)) ∧
  (listed.getD 16 false = true → s26 = .int .i64 (i : Int)) ∧
  (listed.getD 17 false = true → s27 = .pointer (some (ad.add (i * 6)))) ∧
  (listed.getD 18 false = true → s28 = .pointer (some ⟨(ad.add (i * 6)).block, (ad.add (i * 6)).off + 5, none⟩)) ∧
  (listed.getD 19 false = true → s29 = .int .i64 (p : Int)) ∧
  (listed.getD 20 false = true → s30 = .bool true) ∧
  (listed.getD 21 false = true → s31 = .bool true) ∧
  (listed.getD 22 false = true → s32 = .bool true) ∧
  (listed.getD 23 false = true → s33 = .slice (some ad) N cl) ∧
  (listed.getD 24 false = true → s34 = .int .i64 ((i : Int) + 1)) ∧
  (listed.getD 25 false = true → s35 = .bool false) ∧
  (listed.getD 26 false = true → s36 = .bool false) ∧
  (listed.getD 27 false = true → s37 = .bool false) ∧
  (listed.getD 28 false = true → s38 = undef) ∧
  (listed.getD 29 false = true → s39 = undef) ∧
  (listed.getD 30 false = true → s40 = undef) ∧
  (listed.getD 31 false = true → s41 = .bool false) ∧
  (listed.getD 32 false = true → s9 = .bool false) ∧
  Below w0.heap.size w0 w ∧
  w.cell? ⟨(ad.add (i * 6)).block, (ad.add (i * 6)).off + 5, none⟩ = some (.int .i64 (p : Int)) ∧
  w.cell? ⟨(ad.add (j * 6)).block, (ad.add (j * 6)).off + 5, none⟩ = some (.int .i64 (p : Int))
set_option maxRecDepth 100000 in
set_option maxHeartbeats 16000000 in
theorem OnC_region (ad : Addr) (N cl i j p q : Nat) (bm : Bool) (x9 x10 x11 x12 x13 x14 x15 x16 x17 x18 x19 x20 x21 x22 x23 x24 x25 x26 x27 x28 x29 x30 x31 x32 x33 x34 x35 x36 x37 x38 x39 x40 x41 : Value) (c2 c4 c5 c6 c7 c8 c42 c43 c44 c45 c46 c47 c48 c49 c50 c51 c52 c53 c54 c55 c56 c57 c58 c59 c60 c61 c62 c63 c64 c65 c66 c67 c68 c69 c70 c71 c72 c73 c74 c75 c76 c77 c78 c79 c80 c81 c82 c83 c84 c85 c86 c87 c88 c89 c90 c91 c92 c93 c94 c95 c96 c97 c98 c99 c100 c101 c102 c103 c104 c105 c106 c107 c108 c109 c110 c111 c112 c113 c114 c115 c116 c117 c118 c119 c120 c121 c122 c123 c124 c125 c126 c127 c128 c129 c130 c131 c132 c133 c134 c135 c136 c137 c138 c139 c140 c141 c142 c143 c144 c145 c146 c147 c148 : Value) (w0 W : World) (Q : Exit → Act → World → Prop) (hb0 : Below w0.heap.size w0 W) (C0 : W.cell? ⟨(ad.add (i * 6)).block, (ad.add (i * 6)).off + 5, none⟩ = some (.int .i64 (p : Int))) (C1 : W.cell? ⟨(ad.add (j * 6)).block, (ad.add (j * 6)).off + 5, none⟩ = some (.int .i64 (p : Int))) (hi : i < N) (hj : j < N) (_hN : N ≤ 1048576) (wi : IntKind.i64.wrap (i : Int) = (i : Int)) (wj : IntKind.i64.wrap (j : Int) = (j : Int)) (g0 : ((p : Int) != 0) = true) (_g0n : (p != 0) = true) (HKn : (Hid (∀ w1 : World, Below w0.heap.size w0 w1 → Calls Tryd.prog 85 #[.slice (some ad) N cl, .int .i64 ((i : Int) + 1)] w1 fun e' w' => e' = .returned (.bool false) ∧ Below w1.heap.size w1 w')))
    (hQ : ∀ (w : World) , (True) → Below w0.heap.size w0 w → Q .normal { tmps := #[.slice (some ad) N cl, .int .i64 ((i : Int) + 1), c2, .int .i64 ((j : Int) + 1), c4, c5, c6, c7, c8, .bool false, .slice (some ad) N cl, .int .i64 ((i : Int) + 1), .int .i64 (i : Int), .pointer (some (ad.add (i * 6))), .pointer (some ⟨(ad.add (i * 6)).block, (ad.add (i * 6)).off + 5, none⟩), .int .i64 (p : Int), .bool true, .bool true, .slice (some ad) N cl, .int .i64 ((j : Int) + 1), .int .i64 (j : Int), .pointer (some (ad.add (j * 6))), .pointer (some ⟨(ad.add (j * 6)).block, (ad.add (j * 6)).off + 5, none⟩), .int .i64 (p : Int), .slice (some ad) N cl, .int .i64 ((i : Int) + 1), .int .i64 (i : Int), .pointer (some (ad.add (i * 6))), .pointer (some ⟨(ad.add (i * 6)).block, (ad.add (i * 6)).off + 5, none⟩), .int .i64 (p : Int), .bool true, .bool true, .bool true, .slice (some ad) N cl, .int .i64 ((i : Int) + 1), .bool false, .bool false, .bool false, undef, undef, undef, .bool false, c42, c43, c44, c45, c46, c47, c48, c49, c50, c51, c52, c53, c54, c55, c56, c57, c58, c59, c60, c61, c62, c63, c64, c65, c66, c67, c68, c69, c70, c71, c72, c73, c74, c75, c76, c77, c78, c79, c80, c81, c82, c83, c84, c85, c86, c87, c88, c89, c90, c91, c92, c93, c94, c95, c96, c97, c98, c99, c100, c101, c102, c103, c104, c105, c106, c107, c108, c109, c110, c111, c112, c113, c114, c115, c116, c117, c118, c119, c120, c121, c122, c123, c124, c125, c126, c127, c128, c129, c130, c131, c132, c133, c134, c135, c136, c137, c138, c139, c140, c141, c142, c143, c144, c145, c146, c147, c148], defers := [] } w) :
    Code.wp Tryd.prog ((Tryd.f64.body.bind (regionOf 1)).getD .skip) Q { tmps := #[.slice (some ad) N cl, .int .i64 ((i : Int) + 1), c2, .int .i64 ((j : Int) + 1), c4, c5, c6, c7, c8, x9, x10, x11, x12, x13, x14, x15, x16, x17, x18, x19, x20, x21, x22, x23, x24, x25, x26, x27, x28, x29, x30, x31, x32, x33, x34, x35, x36, x37, x38, x39, x40, x41, c42, c43, c44, c45, c46, c47, c48, c49, c50, c51, c52, c53, c54, c55, c56, c57, c58, c59, c60, c61, c62, c63, c64, c65, c66, c67, c68, c69, c70, c71, c72, c73, c74, c75, c76, c77, c78, c79, c80, c81, c82, c83, c84, c85, c86, c87, c88, c89, c90, c91, c92, c93, c94, c95, c96, c97, c98, c99, c100, c101, c102, c103, c104, c105, c106, c107, c108, c109, c110, c111, c112, c113, c114, c115, c116, c117, c118, c119, c120, c121, c122, c123, c124, c125, c126, c127, c128, c129, c130, c131, c132, c133, c134, c135, c136, c137, c138, c139, c140, c141, c142, c143, c144, c145, c146, c147, c148], defers := [] } W := by
  conv => arg 2; whnf
  refine wp_region_inv (by kernel_rfl) (by kernel_rfl) (OnCI w0 ad N cl i j p q bm c2 c4 c5 c6 c7 c8 c42 c43 c44 c45 c46 c47 c48 c49 c50 c51 c52 c53 c54 c55 c56 c57 c58 c59 c60 c61 c62 c63 c64 c65 c66 c67 c68 c69 c70 c71 c72 c73 c74 c75 c76 c77 c78 c79 c80 c81 c82 c83 c84 c85 c86 c87 c88 c89 c90 c91 c92 c93 c94 c95 c96 c97 c98 c99 c100 c101 c102 c103 c104 c105 c106 c107 c108 c109 c110 c111 c112 c113 c114 c115 c116 c117 c118 c119 c120 c121 c122 c123 c124 c125 c126 c127 c128 c129 c130 c131 c132 c133 c134 c135 c136 c137 c138 c139 c140 c141 c142 c143 c144 c145 c146 c147 c148) ?_ ?_ ?_
  · exact ⟨_, _, _, _, _, _, _, _, _, _, _, _, _, _, _, _, _, _, _, _, _, _, _, _, _, _, _, _, _, _, _, _, _, rfl, fun h => absurd h l0, fun h => absurd h l0, fun h => absurd h l0, fun h => absurd h l0, fun h => absurd h l0, fun h => absurd h l0, fun h => absurd h l0, fun h => absurd h l0, fun h => absurd h l0, fun h => absurd h l0, fun h => absurd h l0, fun h => absurd h l0, fun h => absurd h l0, fun h => absurd h l0, fun h => absurd h l0, fun h => absurd h l0, fun h => absurd h l0, fun h => absurd h l0, fun h => absurd h l0, fun h => absurd h l0, fun h => absurd h l0, fun h => absurd h l0, fun h => absurd h l0, fun h => absurd h l0, fun h => absurd h l0, fun h => absurd h l0, fun h => absurd h l0, fun h => absurd h l0, fun h => absurd h l0, fun h => absurd h l0, fun h => absurd h l0, fun h => absurd h l0, fun h => absurd h l0, bdr hb0, C0, C1⟩
  · intro i o listed A w hi ho hd hn hI
    unfold OnCI at hI
    obtain ⟨s9, hI⟩ := hI
    obtain ⟨s10, hI⟩ := hI
    obtain ⟨s11, hI⟩ := hI
    obtain ⟨s12, hI⟩ := hI
    obtain ⟨s13, hI⟩ := hI
    obtain ⟨s14, hI⟩ := hI
    obtain ⟨s15, hI⟩ := hI
    obtain ⟨s16, hI⟩ := hI
    obtain ⟨s17, hI⟩ := hI
    obtain ⟨s18, hI⟩ := hI
    obtain ⟨s19, hI⟩ := hI
    obtain ⟨s20, hI⟩ := hI
    obtain ⟨s21, hI⟩ := hI
    obtain ⟨s22, hI⟩ := hI
    obtain ⟨s23, hI⟩ := hI
    obtain ⟨s24, hI⟩ := hI
    obtain ⟨s25, hI⟩ := hI
    obtain ⟨s26, hI⟩ := hI
    obtain ⟨s27, hI⟩ := hI
    obtain ⟨s28, hI⟩ := hI
    obtain ⟨s29, hI⟩ := hI
    obtain ⟨s30, hI⟩ := hI
    obtain ⟨s31, hI⟩ := hI
    obtain ⟨s32, hI⟩ := hI
    obtain ⟨s33, hI⟩ := hI
    obtain ⟨s34, hI⟩ := hI
    obtain ⟨s35, hI⟩ := hI
    obtain ⟨s36, hI⟩ := hI
    obtain ⟨s37, hI⟩ := hI
    obtain ⟨s38, hI⟩ := hI
    obtain ⟨s39, hI⟩ := hI
    obtain ⟨s40, hI⟩ := hI
    obtain ⟨s41, hI⟩ := hI
    obtain ⟨rfl, hI⟩ := hI
    obtain ⟨F0, hI⟩ := hI
    obtain ⟨F1, hI⟩ := hI
    obtain ⟨F2, hI⟩ := hI
    obtain ⟨F3, hI⟩ := hI
    obtain ⟨F4, hI⟩ := hI
    obtain ⟨F5, hI⟩ := hI
    obtain ⟨F6, hI⟩ := hI
    obtain ⟨F7, hI⟩ := hI
    obtain ⟨F8, hI⟩ := hI
    obtain ⟨F9, hI⟩ := hI
    obtain ⟨F10, hI⟩ := hI
    obtain ⟨F11, hI⟩ := hI
    obtain ⟨F12, hI⟩ := hI
    obtain ⟨F13, hI⟩ := hI
    obtain ⟨F14, hI⟩ := hI
    obtain ⟨F15, hI⟩ := hI
    obtain ⟨F16, hI⟩ := hI
    obtain ⟨F17, hI⟩ := hI
    obtain ⟨F18, hI⟩ := hI
    obtain ⟨F19, hI⟩ := hI
    obtain ⟨F20, hI⟩ := hI
    obtain ⟨F21, hI⟩ := hI
    obtain ⟨F22, hI⟩ := hI
    obtain ⟨F23, hI⟩ := hI
    obtain ⟨F24, hI⟩ := hI
    obtain ⟨F25, hI⟩ := hI
    obtain ⟨F26, hI⟩ := hI
    obtain ⟨F27, hI⟩ := hI
    obtain ⟨F28, hI⟩ := hI
    obtain ⟨F29, hI⟩ := hI
    obtain ⟨F30, hI⟩ := hI
    obtain ⟨F31, hI⟩ := hI
    obtain ⟨F32, hI⟩ := hI
    obtain ⟨F33, hI⟩ := hI
    obtain ⟨F34, hI⟩ := hI
    have F35 := hI; clear hI
    have hi' : i < 33 := hi
    clear hi
    rcases (by omega : i = 0 ∨ i = 1 ∨ i = 2 ∨ i = 3 ∨ i = 4 ∨ i = 5 ∨ i = 6 ∨ i = 7 ∨ i = 8 ∨ i = 9 ∨ i = 10 ∨ i = 11 ∨ i = 12 ∨ i = 13 ∨ i = 14 ∨ i = 15 ∨ i = 16 ∨ i = 17 ∨ i = 18 ∨ i = 19 ∨ i = 20 ∨ i = 21 ∨ i = 22 ∨ i = 23 ∨ i = 24 ∨ i = 25 ∨ i = 26 ∨ i = 27 ∨ i = 28 ∨ i = 29 ∨ i = 30 ∨ i = 31 ∨ i = 32) with rfl | rfl | rfl | rfl | rfl | rfl | rfl | rfl | rfl | rfl | rfl | rfl | rfl | rfl | rfl | rfl | rfl | rfl | rfl | rfl | rfl | rfl | rfl | rfl | rfl | rfl | rfl | rfl | rfl | rfl | rfl | rfl | rfl
    · simp only [List.getElem?_toArray, List.getElem?_cons_zero, Option.some.injEq] at ho
      subst ho
      refine wpOp_step rfl (fun K hK => ?_)
      go_simp
      refine hK _ _ ?_
      exact ⟨_, _, _, _, _, _, _, _, _, _, _, _, _, _, _, _, _, _, _, _, _, _, _, _, _, _, _, _, _, _, _, _, _, rfl, fun _ => rfl, lk F1, lk F2, lk F3, lk F4, lk F5, lk F6, lk F7, lk F8, lk F9, lk F10, lk F11, lk F12, lk F13, lk F14, lk F15, lk F16, lk F17, lk F18, lk F19, lk F20, lk F21, lk F22, lk F23, lk F24, lk F25, lk F26, lk F27, lk F28, lk F29, lk F30, lk F31, lk F32, F33, F34, F35⟩
    · simp only [List.getElem?_toArray, List.getElem?_cons_zero, List.getElem?_cons_succ, Option.some.injEq] at ho
      subst ho
      refine wpOp_step rfl (fun K hK => ?_)
      go_simp
      refine hK _ _ ?_
      exact ⟨_, _, _, _, _, _, _, _, _, _, _, _, _, _, _, _, _, _, _, _, _, _, _, _, _, _, _, _, _, _, _, _, _, rfl, lk F0, fun _ => rfl, lk F2, lk F3, lk F4, lk F5, lk F6, lk F7, lk F8, lk F9, lk F10, lk F11, lk F12, lk F13, lk F14, lk F15, lk F16, lk F17, lk F18, lk F19, lk F20, lk F21, lk F22, lk F23, lk F24, lk F25, lk F26, lk F27, lk F28, lk F29, lk F30, lk F31, lk F32, F33, F34, F35⟩
    · simp only [List.getElem?_toArray, List.getElem?_cons_zero, List.getElem?_cons_succ, Option.some.injEq] at ho
      subst ho
      obtain rfl := F1 (hd ⟨1, .data⟩ (by simp) rfl)
      refine wpOp_step rfl (fun K hK => ?_)
      go_simp
      try rw [wi]
      refine hK _ _ ?_
      exact ⟨_, _, _, _, _, _, _, _, _, _, _, _, _, _, _, _, _, _, _, _, _, _, _, _, _, _, _, _, _, _, _, _, _, rfl, lk F0, lk F1, fun _ => rfl, lk F3, lk F4, lk F5, lk F6, lk F7, lk F8, lk F9, lk F10, lk F11, lk F12, lk F13, lk F14, lk F15, lk F16, lk F17, lk F18, lk F19, lk F20, lk F21, lk F22, lk F23, lk F24, lk F25, lk F26, lk F27, lk F28, lk F29, lk F30, lk F31, lk F32, F33, F34, F35⟩
    · simp only [List.getElem?_toArray, List.getElem?_cons_zero, List.getElem?_cons_succ, Option.some.injEq] at ho
      subst ho
      obtain rfl := F0 (hd ⟨0, .data⟩ (by simp) rfl)
      obtain rfl := F2 (hd ⟨2, .data⟩ (by simp) rfl)
      refine wpOp_step rfl (fun K hK => ?_)
      go_simp
      refine hK _ _ ?_
      exact ⟨_, _, _, _, _, _, _, _, _, _, _, _, _, _, _, _, _, _, _, _, _, _, _, _, _, _, _, _, _, _, _, _, _, rfl, lk F0, lk F1, lk F2, fun _ => rfl, lk F4, lk F5, lk F6, lk F7, lk F8, lk F9, lk F10, lk F11, lk F12, lk F13, lk F14, lk F15, lk F16, lk F17, lk F18, lk F19, lk F20, lk F21, lk F22, lk F23, lk F24, lk F25, lk F26, lk F27, lk F28, lk F29, lk F30, lk F31, lk F32, F33, F34, F35⟩
    · simp only [List.getElem?_toArray, List.getElem?_cons_zero, List.getElem?_cons_succ, Option.some.injEq] at ho
      subst ho
      obtain rfl := F3 (hd ⟨3, .data⟩ (by simp) rfl)
      refine wpOp_step rfl (fun K hK => ?_)
      go_simp
      refine hK _ _ ?_
      exact ⟨_, _, _, _, _, _, _, _, _, _, _, _, _, _, _, _, _, _, _, _, _, _, _, _, _, _, _, _, _, _, _, _, _, rfl, lk F0, lk F1, lk F2, lk F3, fun _ => rfl, lk F5, lk F6, lk F7, lk F8, lk F9, lk F10, lk F11, lk F12, lk F13, lk F14, lk F15, lk F16, lk F17, lk F18, lk F19, lk F20, lk F21, lk F22, lk F23, lk F24, lk F25, lk F26, lk F27, lk F28, lk F29, lk F30, lk F31, lk F32, F33, F34, F35⟩
    · simp only [List.getElem?_toArray, List.getElem?_cons_zero, List.getElem?_cons_succ, Option.some.injEq] at ho
      subst ho
      obtain rfl := F4 (hd ⟨4, .data⟩ (by simp) rfl)
      have h0 := F34; have h1 := F35
      refine wpOp_step rfl (fun K hK => ?_)
      go_simp
      refine hK _ _ ?_
      exact ⟨_, _, _, _, _, _, _, _, _, _, _, _, _, _, _, _, _, _, _, _, _, _, _, _, _, _, _, _, _, _, _, _, _, rfl, lk F0, lk F1, lk F2, lk F3, lk F4, fun _ => rfl, lk F6, lk F7, lk F8, lk F9, lk F10, lk F11, lk F12, lk F13, lk F14, lk F15, lk F16, lk F17, lk F18, lk F19, lk F20, lk F21, lk F22, lk F23, lk F24, lk F25, lk F26, lk F27, lk F28, lk F29, lk F30, lk F31, lk F32, F33, F34, F35⟩
    · simp only [List.getElem?_toArray, List.getElem?_cons_zero, List.getElem?_cons_succ, Option.some.injEq] at ho
      subst ho
      obtain rfl := F5 (hd ⟨5, .data⟩ (by simp) rfl)
      refine wpOp_step rfl (fun K hK => ?_)
      go_simp
      refine hK _ _ ?_
      exact ⟨_, _, _, _, _, _, _, _, _, _, _, _, _, _, _, _, _, _, _, _, _, _, _, _, _, _, _, _, _, _, _, _, _, rfl, lk F0, lk F1, lk F2, lk F3, lk F4, lk F5, fun _ => rfl, lk F7, lk F8, lk F9, lk F10, lk F11, lk F12, lk F13, lk F14, lk F15, lk F16, lk F17, lk F18, lk F19, lk F20, lk F21, lk F22, lk F23, lk F24, lk F25, lk F26, lk F27, lk F28, lk F29, lk F30, lk F31, lk F32, F33, F34, F35⟩
    · simp only [List.getElem?_toArray, List.getElem?_cons_zero, List.getElem?_cons_succ, Option.some.injEq] at ho
      subst ho
      obtain rfl := F6 (hd ⟨6, .data⟩ (by simp) rfl)
      refine wpOp_step rfl (fun K hK => ?_)
      go_simp
      refine hK _ _ ?_
      exact ⟨_, _, _, _, _, _, _, _, _, _, _, _, _, _, _, _, _, _, _, _, _, _, _, _, _, _, _, _, _, _, _, _, _, rfl, lk F0, lk F1, lk F2, lk F3, lk F4, lk F5, lk F6, fun _ => rfl, lk F8, lk F9, lk F10, lk F11, lk F12, lk F13, lk F14, lk F15, lk F16, lk F17, lk F18, lk F19, lk F20, lk F21, lk F22, lk F23, lk F24, lk F25, lk F26, lk F27, lk F28, lk F29, lk F30, lk F31, lk F32, F33, F34, F35⟩
    · simp only [List.getElem?_toArray, List.getElem?_cons_zero, List.getElem?_cons_succ, Option.some.injEq] at ho
      subst ho
      obtain rfl := F7 (hd ⟨7, .guard⟩ (by simp) rfl)
      refine wpOp_step rfl (fun K hK => ?_)
      go_simp
      refine hK _ _ ?_
      exact ⟨_, _, _, _, _, _, _, _, _, _, _, _, _, _, _, _, _, _, _, _, _, _, _, _, _, _, _, _, _, _, _, _, _, rfl, lk F0, lk F1, lk F2, lk F3, lk F4, lk F5, lk F6, lk F7, fun _ => rfl, lk F9, lk F10, lk F11, lk F12, lk F13, lk F14, lk F15, lk F16, lk F17, lk F18, lk F19, lk F20, lk F21, lk F22, lk F23, lk F24, lk F25, lk F26, lk F27, lk F28, lk F29, lk F30, lk F31, lk F32, F33, F34, F35⟩
    · simp only [List.getElem?_toArray, List.getElem?_cons_zero, List.getElem?_cons_succ, Option.some.injEq] at ho
      subst ho
      obtain rfl := F7 (hd ⟨7, .guard⟩ (by simp) rfl)
      refine wpOp_step rfl (fun K hK => ?_)
      go_simp
      refine hK _ _ ?_
      exact ⟨_, _, _, _, _, _, _, _, _, _, _, _, _, _, _, _, _, _, _, _, _, _, _, _, _, _, _, _, _, _, _, _, _, rfl, lk F0, lk F1, lk F2, lk F3, lk F4, lk F5, lk F6, lk F7, lk F8, fun _ => rfl, lk F10, lk F11, lk F12, lk F13, lk F14, lk F15, lk F16, lk F17, lk F18, lk F19, lk F20, lk F21, lk F22, lk F23, lk F24, lk F25, lk F26, lk F27, lk F28, lk F29, lk F30, lk F31, lk F32, F33, F34, F35⟩
    · simp only [List.getElem?_toArray, List.getElem?_cons_zero, List.getElem?_cons_succ, Option.some.injEq] at ho
      subst ho
      obtain rfl := F9 (hd ⟨9, .data⟩ (by simp) rfl)
      obtain rfl := F7 (hd ⟨7, .guard⟩ (by simp) rfl)
      refine wpOp_step rfl (fun K hK => ?_)
      go_simp
      try rw [wj]
      refine hK _ _ ?_
      exact ⟨_, _, _, _, _, _, _, _, _, _, _, _, _, _, _, _, _, _, _, _, _, _, _, _, _, _, _, _, _, _, _, _, _, rfl, lk F0, lk F1, lk F2, lk F3, lk F4, lk F5, lk F6, lk F7, lk F8, lk F9, fun _ => rfl, lk F11, lk F12, lk F13, lk F14, lk F15, lk F16, lk F17, lk F18, lk F19, lk F20, lk F21, lk F22, lk F23, lk F24, lk F25, lk F26, lk F27, lk F28, lk F29, lk F30, lk F31, lk F32, F33, F34, F35⟩
    · simp only [List.getElem?_toArray, List.getElem?_cons_zero, List.getElem?_cons_succ, Option.some.injEq] at ho
      subst ho
      obtain rfl := F8 (hd ⟨8, .data⟩ (by simp) rfl)
      obtain rfl := F10 (hd ⟨10, .data⟩ (by simp) rfl)
      obtain rfl := F7 (hd ⟨7, .guard⟩ (by simp) rfl)
      refine wpOp_step rfl (fun K hK => ?_)
      go_simp
      refine hK _ _ ?_
      exact ⟨_, _, _, _, _, _, _, _, _, _, _, _, _, _, _, _, _, _, _, _, _, _, _, _, _, _, _, _, _, _, _, _, _, rfl, lk F0, lk F1, lk F2, lk F3, lk F4, lk F5, lk F6, lk F7, lk F8, lk F9, lk F10, fun _ => rfl, lk F12, lk F13, lk F14, lk F15, lk F16, lk F17, lk F18, lk F19, lk F20, lk F21, lk F22, lk F23, lk F24, lk F25, lk F26, lk F27, lk F28, lk F29, lk F30, lk F31, lk F32, F33, F34, F35⟩
    · simp only [List.getElem?_toArray, List.getElem?_cons_zero, List.getElem?_cons_succ, Option.some.injEq] at ho
      subst ho
      obtain rfl := F11 (hd ⟨11, .data⟩ (by simp) rfl)
      obtain rfl := F7 (hd ⟨7, .guard⟩ (by simp) rfl)
      refine wpOp_step rfl (fun K hK => ?_)
      go_simp
      refine hK _ _ ?_
      exact ⟨_, _, _, _, _, _, _, _, _, _, _, _, _, _, _, _, _, _, _, _, _, _, _, _, _, _, _, _, _, _, _, _, _, rfl, lk F0, lk F1, lk F2, lk F3, lk F4, lk F5, lk F6, lk F7, lk F8, lk F9, lk F10, lk F11, fun _ => rfl, lk F13, lk F14, lk F15, lk F16, lk F17, lk F18, lk F19, lk F20, lk F21, lk F22, lk F23, lk F24, lk F25, lk F26, lk F27, lk F28, lk F29, lk F30, lk F31, lk F32, F33, F34, F35⟩
    · simp only [List.getElem?_toArray, List.getElem?_cons_zero, List.getElem?_cons_succ, Option.some.injEq] at ho
      subst ho
      obtain rfl := F12 (hd ⟨12, .data⟩ (by simp) rfl)
      obtain rfl := F7 (hd ⟨7, .guard⟩ (by simp) rfl)
      have h0 := F34; have h1 := F35
      refine wpOp_step rfl (fun K hK => ?_)
      go_simp
      refine hK _ _ ?_
      exact ⟨_, _, _, _, _, _, _, _, _, _, _, _, _, _, _, _, _, _, _, _, _, _, _, _, _, _, _, _, _, _, _, _, _, rfl, lk F0, lk F1, lk F2, lk F3, lk F4, lk F5, lk F6, lk F7, lk F8, lk F9, lk F10, lk F11, lk F12, fun _ => rfl, lk F14, lk F15, lk F16, lk F17, lk F18, lk F19, lk F20, lk F21, lk F22, lk F23, lk F24, lk F25, lk F26, lk F27, lk F28, lk F29, lk F30, lk F31, lk F32, F33, F34, F35⟩
    · simp only [List.getElem?_toArray, List.getElem?_cons_zero, List.getElem?_cons_succ, Option.some.injEq] at ho
      subst ho
      obtain rfl := F7 (hd ⟨7, .guard⟩ (by simp) rfl)
      refine wpOp_step rfl (fun K hK => ?_)
      go_simp
      refine hK _ _ ?_
      exact ⟨_, _, _, _, _, _, _, _, _, _, _, _, _, _, _, _, _, _, _, _, _, _, _, _, _, _, _, _, _, _, _, _, _, rfl, lk F0, lk F1, lk F2, lk F3, lk F4, lk F5, lk F6, lk F7, lk F8, lk F9, lk F10, lk F11, lk F12, lk F13, fun _ => rfl, lk F15, lk F16, lk F17, lk F18, lk F19, lk F20, lk F21, lk F22, lk F23, lk F24, lk F25, lk F26, lk F27, lk F28, lk F29, lk F30, lk F31, lk F32, F33, F34, F35⟩
    · simp only [List.getElem?_toArray, List.getElem?_cons_zero, List.getElem?_cons_succ, Option.some.injEq] at ho
      subst ho
      obtain rfl := F7 (hd ⟨7, .guard⟩ (by simp) rfl)
      refine wpOp_step rfl (fun K hK => ?_)
      go_simp
      refine hK _ _ ?_
      exact ⟨_, _, _, _, _, _, _, _, _, _, _, _, _, _, _, _, _, _, _, _, _, _, _, _, _, _, _, _, _, _, _, _, _, rfl, lk F0, lk F1, lk F2, lk F3, lk F4, lk F5, lk F6, lk F7, lk F8, lk F9, lk F10, lk F11, lk F12, lk F13, lk F14, fun _ => rfl, lk F16, lk F17, lk F18, lk F19, lk F20, lk F21, lk F22, lk F23, lk F24, lk F25, lk F26, lk F27, lk F28, lk F29, lk F30, lk F31, lk F32, F33, F34, F35⟩
    · simp only [List.getElem?_toArray, List.getElem?_cons_zero, List.getElem?_cons_succ, Option.some.injEq] at ho
      subst ho
      obtain rfl := F15 (hd ⟨15, .data⟩ (by simp) rfl)
      obtain rfl := F7 (hd ⟨7, .guard⟩ (by simp) rfl)
      refine wpOp_step rfl (fun K hK => ?_)
      go_simp
      try rw [wi]
      refine hK _ _ ?_
      exact ⟨_, _, _, _, _, _, _, _, _, _, _, _, _, _, _, _, _, _, _, _, _, _, _, _, _, _, _, _, _, _, _, _, _, rfl, lk F0, lk F1, lk F2, lk F3, lk F4, lk F5, lk F6, lk F7, lk F8, lk F9, lk F10, lk F11, lk F12, lk F13, lk F14, lk F15, fun _ => rfl, lk F17, lk F18, lk F19, lk F20, lk F21, lk F22, lk F23, lk F24, lk F25, lk F26, lk F27, lk F28, lk F29, lk F30, lk F31, lk F32, F33, F34, F35⟩
    · simp only [List.getElem?_toArray, List.getElem?_cons_zero, List.getElem?_cons_succ, Option.some.injEq] at ho
      subst ho
      obtain rfl := F14 (hd ⟨14, .data⟩ (by simp) rfl)
      obtain rfl := F16 (hd ⟨16, .data⟩ (by simp) rfl)
      obtain rfl := F7 (hd ⟨7, .guard⟩ (by simp) rfl)
      refine wpOp_step rfl (fun K hK => ?_)
      go_simp
      refine hK _ _ ?_
      exact ⟨_, _, _, _, _, _, _, _, _, _, _, _, _, _, _, _, _, _, _, _, _, _, _, _, _, _, _, _, _, _, _, _, _, rfl, lk F0, lk F1, lk F2, lk F3, lk F4, lk F5, lk F6, lk F7, lk F8, lk F9, lk F10, lk F11, lk F12, lk F13, lk F14, lk F15, lk F16, fun _ => rfl, lk F18, lk F19, lk F20, lk F21, lk F22, lk F23, lk F24, lk F25, lk F26, lk F27, lk F28, lk F29, lk F30, lk F31, lk F32, F33, F34, F35⟩
    · simp only [List.getElem?_toArray, List.getElem?_cons_zero, List.getElem?_cons_succ, Option.some.injEq] at ho
      subst ho
      obtain rfl := F17 (hd ⟨17, .data⟩ (by simp) rfl)
      obtain rfl := F7 (hd ⟨7, .guard⟩ (by simp) rfl)
      refine wpOp_step rfl (fun K hK => ?_)
      go_simp
      refine hK _ _ ?_
      exact ⟨_, _, _, _, _, _, _, _, _, _, _, _, _, _, _, _, _, _, _, _, _, _, _, _, _, _, _, _, _, _, _, _, _, rfl, lk F0, lk F1, lk F2, lk F3, lk F4, lk F5, lk F6, lk F7, lk F8, lk F9, lk F10, lk F11, lk F12, lk F13, lk F14, lk F15, lk F16, lk F17, fun _ => rfl, lk F19, lk F20, lk F21, lk F22, lk F23, lk F24, lk F25, lk F26, lk F27, lk F28, lk F29, lk F30, lk F31, lk F32, F33, F34, F35⟩
    · simp only [List.getElem?_toArray, List.getElem?_cons_zero, List.getElem?_cons_succ, Option.some.injEq] at ho
      subst ho
      obtain rfl := F18 (hd ⟨18, .data⟩ (by simp) rfl)
      obtain rfl := F7 (hd ⟨7, .guard⟩ (by simp) rfl)
      have h0 := F34; have h1 := F35
      refine wpOp_step rfl (fun K hK => ?_)
      go_simp
      refine hK _ _ ?_
      exact ⟨_, _, _, _, _, _, _, _, _, _, _, _, _, _, _, _, _, _, _, _, _, _, _, _, _, _, _, _, _, _, _, _, _, rfl, lk F0, lk F1, lk F2, lk F3, lk F4, lk F5, lk F6, lk F7, lk F8, lk F9, lk F10, lk F11, lk F12, lk F13, lk F14, lk F15, lk F16, lk F17, lk F18, fun _ => rfl, lk F20, lk F21, lk F22, lk F23, lk F24, lk F25, lk F26, lk F27, lk F28, lk F29, lk F30, lk F31, lk F32, F33, F34, F35⟩
    · simp only [List.getElem?_toArray, List.getElem?_cons_zero, List.getElem?_cons_succ, Option.some.injEq] at ho
      subst ho
      obtain rfl := F13 (hd ⟨13, .data⟩ (by simp) rfl)
      obtain rfl := F19 (hd ⟨19, .data⟩ (by simp) rfl)
      obtain rfl := F7 (hd ⟨7, .guard⟩ (by simp) rfl)
      refine wpOp_step rfl (fun K hK => ?_)
      go_simp
      refine hK _ _ ?_
      exact ⟨_, _, _, _, _, _, _, _, _, _, _, _, _, _, _, _, _, _, _, _, _, _, _, _, _, _, _, _, _, _, _, _, _, rfl, lk F0, lk F1, lk F2, lk F3, lk F4, lk F5, lk F6, lk F7, lk F8, lk F9, lk F10, lk F11, lk F12, lk F13, lk F14, lk F15, lk F16, lk F17, lk F18, lk F19, fun _ => rfl, lk F21, lk F22, lk F23, lk F24, lk F25, lk F26, lk F27, lk F28, lk F29, lk F30, lk F31, lk F32, F33, F34, F35⟩
    · simp only [List.getElem?_toArray, List.getElem?_cons_zero, List.getElem?_cons_succ, Option.some.injEq] at ho
      subst ho
      obtain rfl := F7 (hd ⟨7, .data⟩ (by simp) rfl)
      obtain rfl := F20 (hd ⟨20, .data⟩ (by simp) rfl)
      refine wpOp_step rfl (fun K hK => ?_)
      go_simp
      refine hK _ _ ?_
      exact ⟨_, _, _, _, _, _, _, _, _, _, _, _, _, _, _, _, _, _, _, _, _, _, _, _, _, _, _, _, _, _, _, _, _, rfl, lk F0, lk F1, lk F2, lk F3, lk F4, lk F5, lk F6, lk F7, lk F8, lk F9, lk F10, lk F11, lk F12, lk F13, lk F14, lk F15, lk F16, lk F17, lk F18, lk F19, lk F20, fun _ => rfl, lk F22, lk F23, lk F24, lk F25, lk F26, lk F27, lk F28, lk F29, lk F30, lk F31, lk F32, F33, F34, F35⟩
    · simp only [List.getElem?_toArray, List.getElem?_cons_zero, List.getElem?_cons_succ, Option.some.injEq] at ho
      subst ho
      obtain rfl := F21 (hd ⟨21, .data⟩ (by simp) rfl)
      refine wpOp_step rfl (fun K hK => ?_)
      go_simp
      refine hK _ _ ?_
      exact ⟨_, _, _, _, _, _, _, _, _, _, _, _, _, _, _, _, _, _, _, _, _, _, _, _, _, _, _, _, _, _, _, _, _, rfl, lk F0, lk F1, lk F2, lk F3, lk F4, lk F5, lk F6, lk F7, lk F8, lk F9, lk F10, lk F11, lk F12, lk F13, lk F14, lk F15, lk F16, lk F17, lk F18, lk F19, lk F20, lk F21, fun _ => rfl, lk F23, lk F24, lk F25, lk F26, lk F27, lk F28, lk F29, lk F30, lk F31, lk F32, F33, F34, F35⟩
    · simp only [List.getElem?_toArray, List.getElem?_cons_zero, List.getElem?_cons_succ, Option.some.injEq] at ho
      subst ho
      obtain rfl := F22 (hd ⟨22, .guard⟩ (by simp) rfl)
      refine wpOp_step rfl (fun K hK => ?_)
      go_simp
      refine hK _ _ ?_
      exact ⟨_, _, _, _, _, _, _, _, _, _, _, _, _, _, _, _, _, _, _, _, _, _, _, _, _, _, _, _, _, _, _, _, _, rfl, lk F0, lk F1, lk F2, lk F3, lk F4, lk F5, lk F6, lk F7, lk F8, lk F9, lk F10, lk F11, lk F12, lk F13, lk F14, lk F15, lk F16, lk F17, lk F18, lk F19, lk F20, lk F21, lk F22, fun _ => rfl, lk F24, lk F25, lk F26, lk F27, lk F28, lk F29, lk F30, lk F31, lk F32, F33, F34, F35⟩
    · simp only [List.getElem?_toArray, List.getElem?_cons_zero, List.getElem?_cons_succ, Option.some.injEq] at ho
      subst ho
      obtain rfl := F22 (hd ⟨22, .guard⟩ (by simp) rfl)
      refine wpOp_step rfl (fun K hK => ?_)
      go_simp
      refine hK _ _ ?_
      exact ⟨_, _, _, _, _, _, _, _, _, _, _, _, _, _, _, _, _, _, _, _, _, _, _, _, _, _, _, _, _, _, _, _, _, rfl, lk F0, lk F1, lk F2, lk F3, lk F4, lk F5, lk F6, lk F7, lk F8, lk F9, lk F10, lk F11, lk F12, lk F13, lk F14, lk F15, lk F16, lk F17, lk F18, lk F19, lk F20, lk F21, lk F22, lk F23, fun _ => rfl, lk F25, lk F26, lk F27, lk F28, lk F29, lk F30, lk F31, lk F32, F33, F34, F35⟩
    · simp only [List.getElem?_toArray, List.getElem?_cons_zero, List.getElem?_cons_succ, Option.some.injEq] at ho
      subst ho
      obtain rfl := F23 (hd ⟨23, .data⟩ (by simp) rfl)
      obtain rfl := F24 (hd ⟨24, .data⟩ (by simp) rfl)
      obtain rfl := F22 (hd ⟨22, .guard⟩ (by simp) rfl)
      refine wpOp_step rfl (fun K hK => ?_)
      go_simp
      go_at_call 85
      refine (HKn.out _ (by exact F33)).mono ?_
      rintro e' w' ⟨rfl, hb⟩
      refine hK _ _ ?_
      exact ⟨_, _, _, _, _, _, _, _, _, _, _, _, _, _, _, _, _, _, _, _, _, _, _, _, _, _, _, _, _, _, _, _, _, rfl, lk F0, lk F1, lk F2, lk F3, lk F4, lk F5, lk F6, lk F7, lk F8, lk F9, lk F10, lk F11, lk F12, lk F13, lk F14, lk F15, lk F16, lk F17, lk F18, lk F19, lk F20, lk F21, lk F22, lk F23, lk F24, fun _ => rfl, lk F26, lk F27, lk F28, lk F29, lk F30, lk F31, lk F32, bt F33 hb, cell_call F34 hb, cell_call F35 hb⟩
    · simp only [List.getElem?_toArray, List.getElem?_cons_zero, List.getElem?_cons_succ, Option.some.injEq] at ho
      subst ho
      obtain rfl := F22 (hd ⟨22, .data⟩ (by simp) rfl)
      obtain rfl := F25 (hd ⟨25, .data⟩ (by simp) rfl)
      refine wpOp_step rfl (fun K hK => ?_)
      go_simp
      refine hK _ _ ?_
      exact ⟨_, _, _, _, _, _, _, _, _, _, _, _, _, _, _, _, _, _, _, _, _, _, _, _, _, _, _, _, _, _, _, _, _, rfl, lk F0, lk F1, lk F2, lk F3, lk F4, lk F5, lk F6, lk F7, lk F8, lk F9, lk F10, lk F11, lk F12, lk F13, lk F14, lk F15, lk F16, lk F17, lk F18, lk F19, lk F20, lk F21, lk F22, lk F23, lk F24, lk F25, fun _ => rfl, lk F27, lk F28, lk F29, lk F30, lk F31, lk F32, F33, F34, F35⟩
    · simp only [List.getElem?_toArray, List.getElem?_cons_zero, List.getElem?_cons_succ, Option.some.injEq] at ho
      subst ho
      obtain rfl := F26 (hd ⟨26, .data⟩ (by simp) rfl)
      refine wpOp_step rfl (fun K hK => ?_)
      go_simp
      refine hK _ _ ?_
      exact ⟨_, _, _, _, _, _, _, _, _, _, _, _, _, _, _, _, _, _, _, _, _, _, _, _, _, _, _, _, _, _, _, _, _, rfl, lk F0, lk F1, lk F2, lk F3, lk F4, lk F5, lk F6, lk F7, lk F8, lk F9, lk F10, lk F11, lk F12, lk F13, lk F14, lk F15, lk F16, lk F17, lk F18, lk F19, lk F20, lk F21, lk F22, lk F23, lk F24, lk F25, lk F26, fun _ => rfl, lk F28, lk F29, lk F30, lk F31, lk F32, F33, F34, F35⟩
    · simp only [List.getElem?_toArray, List.getElem?_cons_zero, List.getElem?_cons_succ, Option.some.injEq] at ho
      subst ho
      obtain rfl := F27 (hd ⟨27, .guard⟩ (by simp) rfl)
      refine wpOp_step rfl (fun K hK => ?_)
      go_simp
      refine hK _ _ ?_
      exact ⟨_, _, _, _, _, _, _, _, _, _, _, _, _, _, _, _, _, _, _, _, _, _, _, _, _, _, _, _, _, _, _, _, _, rfl, lk F0, lk F1, lk F2, lk F3, lk F4, lk F5, lk F6, lk F7, lk F8, lk F9, lk F10, lk F11, lk F12, lk F13, lk F14, lk F15, lk F16, lk F17, lk F18, lk F19, lk F20, lk F21, lk F22, lk F23, lk F24, lk F25, lk F26, lk F27, fun _ => rfl, lk F29, lk F30, lk F31, lk F32, F33, F34, F35⟩
    · simp only [List.getElem?_toArray, List.getElem?_cons_zero, List.getElem?_cons_succ, Option.some.injEq] at ho
      subst ho
      obtain rfl := F27 (hd ⟨27, .guard⟩ (by simp) rfl)
      refine wpOp_step rfl (fun K hK => ?_)
      go_simp
      refine hK _ _ ?_
      exact ⟨_, _, _, _, _, _, _, _, _, _, _, _, _, _, _, _, _, _, _, _, _, _, _, _, _, _, _, _, _, _, _, _, _, rfl, lk F0, lk F1, lk F2, lk F3, lk F4, lk F5, lk F6, lk F7, lk F8, lk F9, lk F10, lk F11, lk F12, lk F13, lk F14, lk F15, lk F16, lk F17, lk F18, lk F19, lk F20, lk F21, lk F22, lk F23, lk F24, lk F25, lk F26, lk F27, lk F28, fun _ => rfl, lk F30, lk F31, lk F32, F33, F34, F35⟩
    · simp only [List.getElem?_toArray, List.getElem?_cons_zero, List.getElem?_cons_succ, Option.some.injEq] at ho
      subst ho
      obtain rfl := F27 (hd ⟨27, .guard⟩ (by simp) rfl)
      refine wpOp_step rfl (fun K hK => ?_)
      go_simp
      refine hK _ _ ?_
      exact ⟨_, _, _, _, _, _, _, _, _, _, _, _, _, _, _, _, _, _, _, _, _, _, _, _, _, _, _, _, _, _, _, _, _, rfl, lk F0, lk F1, lk F2, lk F3, lk F4, lk F5, lk F6, lk F7, lk F8, lk F9, lk F10, lk F11, lk F12, lk F13, lk F14, lk F15, lk F16, lk F17, lk F18, lk F19, lk F20, lk F21, lk F22, lk F23, lk F24, lk F25, lk F26, lk F27, lk F28, lk F29, fun _ => rfl, lk F31, lk F32, F33, F34, F35⟩
    · simp only [List.getElem?_toArray, List.getElem?_cons_zero, List.getElem?_cons_succ, Option.some.injEq] at ho
      subst ho
      obtain rfl := F27 (hd ⟨27, .data⟩ (by simp) rfl)
      refine wpOp_step rfl (fun K hK => ?_)
      go_simp
      refine hK _ _ ?_
      exact ⟨_, _, _, _, _, _, _, _, _, _, _, _, _, _, _, _, _, _, _, _, _, _, _, _, _, _, _, _, _, _, _, _, _, rfl, lk F0, lk F1, lk F2, lk F3, lk F4, lk F5, lk F6, lk F7, lk F8, lk F9, lk F10, lk F11, lk F12, lk F13, lk F14, lk F15, lk F16, lk F17, lk F18, lk F19, lk F20, lk F21, lk F22, lk F23, lk F24, lk F25, lk F26, lk F27, lk F28, lk F29, lk F30, fun _ => rfl, lk F32, F33, F34, F35⟩
    · simp only [List.getElem?_toArray, List.getElem?_cons_zero, List.getElem?_cons_succ, Option.some.injEq] at ho
      subst ho
      obtain rfl := F31 (hd ⟨31, .data⟩ (by simp) rfl)
      refine wpOp_step rfl (fun K hK => ?_)
      go_simp
      refine hK _ _ ?_
      exact ⟨_, _, _, _, _, _, _, _, _, _, _, _, _, _, _, _, _, _, _, _, _, _, _, _, _, _, _, _, _, _, _, _, _, rfl, lk F0, lk F1, lk F2, lk F3, lk F4, lk F5, lk F6, lk F7, lk F8, lk F9, lk F10, lk F11, lk F12, lk F13, lk F14, lk F15, lk F16, lk F17, lk F18, lk F19, lk F20, lk F21, lk F22, lk F23, lk F24, lk F25, lk F26, lk F27, lk F28, lk F29, lk F30, lk F31, fun _ => rfl, F33, F34, F35⟩
  · intro listed A w hall hI
    unfold OnCI at hI
    obtain ⟨s9, hI⟩ := hI
    obtain ⟨s10, hI⟩ := hI
    obtain ⟨s11, hI⟩ := hI
    obtain ⟨s12, hI⟩ := hI
    obtain ⟨s13, hI⟩ := hI
    obtain ⟨s14, hI⟩ := hI
    obtain ⟨s15, hI⟩ := hI
    obtain ⟨s16, hI⟩ := hI
    obtain ⟨s17, hI⟩ := hI
    obtain ⟨s18, hI⟩ := hI
    obtain ⟨s19, hI⟩ := hI
    obtain ⟨s20, hI⟩ := hI
    obtain ⟨s21, hI⟩ := hI
    obtain ⟨s22, hI⟩ := hI
    obtain ⟨s23, hI⟩ := hI
    obtain ⟨s24, hI⟩ := hI
    obtain ⟨s25, hI⟩ := hI
    obtain ⟨s26, hI⟩ := hI
    obtain ⟨s27, hI⟩ := hI
    obtain ⟨s28, hI⟩ := hI
    obtain ⟨s29, hI⟩ := hI
    obtain ⟨s30, hI⟩ := hI
    obtain ⟨s31, hI⟩ := hI
    obtain ⟨s32, hI⟩ := hI
    obtain ⟨s33, hI⟩ := hI
    obtain ⟨s34, hI⟩ := hI
    obtain ⟨s35, hI⟩ := hI
    obtain ⟨s36, hI⟩ := hI
    obtain ⟨s37, hI⟩ := hI
    obtain ⟨s38, hI⟩ := hI
    obtain ⟨s39, hI⟩ := hI
    obtain ⟨s40, hI⟩ := hI
    obtain ⟨s41, hI⟩ := hI
    obtain ⟨rfl, hI⟩ := hI
    obtain ⟨F0, hI⟩ := hI
    obtain ⟨F1, hI⟩ := hI
    obtain ⟨F2, hI⟩ := hI
    obtain ⟨F3, hI⟩ := hI
    obtain ⟨F4, hI⟩ := hI
    obtain ⟨F5, hI⟩ := hI
    obtain ⟨F6, hI⟩ := hI
    obtain ⟨F7, hI⟩ := hI
    obtain ⟨F8, hI⟩ := hI
    obtain ⟨F9, hI⟩ := hI
    obtain ⟨F10, hI⟩ := hI
    obtain ⟨F11, hI⟩ := hI
    obtain ⟨F12, hI⟩ := hI
    obtain ⟨F13, hI⟩ := hI
    obtain ⟨F14, hI⟩ := hI
    obtain ⟨F15, hI⟩ := hI
    obtain ⟨F16, hI⟩ := hI
    obtain ⟨F17, hI⟩ := hI
    obtain ⟨F18, hI⟩ := hI
    obtain ⟨F19, hI⟩ := hI
    obtain ⟨F20, hI⟩ := hI
    obtain ⟨F21, hI⟩ := hI
    obtain ⟨F22, hI⟩ := hI
    obtain ⟨F23, hI⟩ := hI
    obtain ⟨F24, hI⟩ := hI
    obtain ⟨F25, hI⟩ := hI
    obtain ⟨F26, hI⟩ := hI
    obtain ⟨F27, hI⟩ := hI
    obtain ⟨F28, hI⟩ := hI
    obtain ⟨F29, hI⟩ := hI
    obtain ⟨F30, hI⟩ := hI
    obtain ⟨F31, hI⟩ := hI
    obtain ⟨F32, hI⟩ := hI
    obtain ⟨F33, hI⟩ := hI
    obtain ⟨F34, hI⟩ := hI
    have F35 := hI; clear hI
    obtain rfl := F0 (hall 0 (by decide))
    obtain rfl := F1 (hall 1 (by decide))
    obtain rfl := F2 (hall 2 (by decide))
    obtain rfl := F3 (hall 3 (by decide))
    obtain rfl := F4 (hall 4 (by decide))
    obtain rfl := F5 (hall 5 (by decide))
    obtain rfl := F6 (hall 6 (by decide))
    obtain rfl := F7 (hall 7 (by decide))
    obtain rfl := F8 (hall 8 (by decide))
    obtain rfl := F9 (hall 9 (by decide))
    obtain rfl := F10 (hall 10 (by decide))
    obtain rfl := F11 (hall 11 (by decide))
    obtain rfl := F12 (hall 12 (by decide))
    obtain rfl := F13 (hall 13 (by decide))
    obtain rfl := F14 (hall 14 (by decide))
    obtain rfl := F15 (hall 15 (by decide))
    obtain rfl := F16 (hall 16 (by decide))
    obtain rfl := F17 (hall 17 (by decide))
    obtain rfl := F18 (hall 18 (by decide))
    obtain rfl := F19 (hall 19 (by decide))
    obtain rfl := F20 (hall 20 (by decide))
    obtain rfl := F21 (hall 21 (by decide))
    obtain rfl := F22 (hall 22 (by decide))
    obtain rfl := F23 (hall 23 (by decide))
    obtain rfl := F24 (hall 24 (by decide))
    obtain rfl := F25 (hall 25 (by decide))
    obtain rfl := F26 (hall 26 (by decide))
    obtain rfl := F27 (hall 27 (by decide))
    obtain rfl := F28 (hall 28 (by decide))
    obtain rfl := F29 (hall 29 (by decide))
    obtain rfl := F30 (hall 30 (by decide))
    obtain rfl := F31 (hall 31 (by decide))
    obtain rfl := F32 (hall 32 (by decide))
    have HB := F33
    have Q0 := F34
    have Q1 := F35
    exact hQ _ trivial HB
def OnDI (w0 : World) (ad : Addr) (N cl i j p _q : Nat) (bm : Bool) (c2 c4 c5 c6 c7 c8 c42 c43 c44 c45 c46 c47 c48 c49 c50 c51 c52 c53 c54 c55 c56 c57 c58 c59 c60 c61 c62 c63 c64 c65 c66 c67 c68 c69 c70 c71 c72 c73 c74 c75 c76 c77 c78 c79 c80 c81 c82 c83 c84 c85 c86 c87 c88 c89 c90 c91 c92 c93 c94 c95 c96 c97 c98 c99 c100 c101 c102 c103 c104 c105 c106 c107 c108 c109 c110 c111 c112 c113 c114 c115 c116 c117 c118 c119 c120 c121 c122 c123 c124 c125 c126 c127 c128 c129 c130 c131 c132 c133 c134 c135 c136 c137 c138 c139 c140 c141 c142 c143 c144 c145 c146 c147 c148 : Value) (listed : Array Bool) (A : Act) (w : World) : Prop := ∃ (s9 s10 s11 s12 s13 s14 s15 s16 s17 s18 s19 s20 s21 s22 s23 s24 s25 s26 s27 s28 s29 s30 s31 s32 s33 s34 s35 s36 s37 s38 s39 s40 s41 : Value), A = { tmps := #[.slice (some ad) N cl, .int .i64 ((i : Int) + 1), c2, .int .i64 ((j : Int) + 1), c4, c5, c6, c7, c8, s9, s10, s11, s12, s13, s14, s15, s16, s17, s18, s19, s20, s21, s22, s23, s24, s25, s26, s27, s28, s29, s30, s31, s32, s33, s34, s35, s36, s37, s38, s39, s40, s41, c42, c43, c44, c45, c46, c47, c48, c49, c50, c51, c52, c53, c54, c55, c56, c57, c58, c59, c60, c61, c62, c63, c64, c65, c66, c67, c68, c69, c70, c71, c72, c73, c74, c75, c76, c77, c78, c79, c80, c81, c82, c83, c84, c85, c86, c87, c88, c89, c90, c91, c92, c93, c94, c95, c96, c97, c98, c99, c100, c101, c102, c103, c104, c105, c106, c107, c108, c109, c110, c111, c112, c113, c114, c115, c116, c117, c118, c119, c120, c121, c122, c123, c124, c125, c126, c127, c128, c129, c130, c131, c132, c133, c134, c135, c136, c137, c138, c139, c140, c141, c142, c143, c144, c145, c146, c147, c148], defers := [] } ∧
  (listed.getD 0 false = true → s10 = .slice (some ad) N cl) ∧
  (listed.getD 1 false = true → s11 = .int .i64 ((i : Int) + 1)) ∧
  (listed.getD 2 false = true → s12 = .int .i64 (i : Int)) ∧
  (listed.getD 3 false = true → s13 = .pointer (some (ad.add (i * 6)))) ∧
  (listed.getD 4 false = true → s14 = .pointer (some ⟨(ad.add (i * 6)).block, (ad.add (i * 6)).off + 5, none⟩)) ∧
  (listed.getD 5 false = true → s15 = .int .i64 (p : Int)) ∧
  (listed.getD 6 false = true → s16 = .bool true) ∧
  (listed.getD 7 false = true → s17 = .bool true) ∧
  (listed.getD 8 false = true → s18 = .slice (some ad) N cl) ∧
  (listed.getD 9 false = true → s19 = .int .i64 ((j : Int) + 1)) ∧
  (listed.getD 10 false = true → s20 = .int .i64 (j : Int)) ∧
  (listed.getD 11 false = true → s21 = .pointer (some (ad.add (j * 6)))) ∧
  (listed.getD 12 false = true → s22 = .pointer (some ⟨(ad.add (j * 6)).block, (ad.add (j * 6)).off + 5, none⟩)) ∧
  (listed.getD 13 false = true → s23 = .int .i64 (p : Int)) ∧
  (listed.getD 14 false = true → s24 = .slice (some ad) N cl) ∧
  (listed.getD 15 false = true → s25 = .int .i64 ((i : Int) + 1)) ∧
  (listed.getD 16 false = true → s26 = .int .i64 (i : Int)) ∧
  (listed.getD 17 false = true → s27 = .pointer (some (ad.add (i * 6)))) ∧
  (listed.getD 18 false = true → s28 = .pointer (some ⟨(ad.add (i * 6)).block, (ad.add (i * 6)).off + 5, none⟩)) ∧
  (listed.getD 19 false = true → s29 = .int .i64 (p : Int)) ∧
  (listed.getD 20 false = true → s30 = .bool true) ∧
  (listed.getD 21 false = true → s31 = .bool true) ∧
  (listed.getD 22 false = true → s32 = .bool true) ∧
  (listed.getD 23 false = true → s33 = .slice (some ad) N cl) ∧
  (listed.getD 24 false = true → s34 = .int .i64 ((i : Int) + 1)) ∧
  (listed.getD 25 false = true → s35 = .bool true) ∧
  (listed.getD 26 false = true → s36 = .bool true) ∧
  (listed.getD 27 false = true → s37 = .bool true) ∧
  (listed.getD 28 false = true → s38 = .slice (some ad) N cl) ∧
  (listed.getD 29 false = true → s39 = .int .i64 ((j : Int) + 1)) ∧
  (listed.getD 30 false = true → s40 = .bool bm) ∧
  (listed.getD 31 false = true → s41 = .bool bm) ∧
  (listed.getD 32 false = true → s9 = .bool bm) ∧
  Below w0.heap.size w0 w ∧
  w.cell? ⟨(ad.add (i * 6)).block, (ad.add (i * 6)).off + 5, none⟩ = some (.int .i64 (p : Int)) ∧
  w.cell? ⟨(ad.add (j * 6)).block, (ad.add (j * 6)).off + 5, none⟩ = some (.int .i64 (p : Int))
set_option maxRecDepth 100000 in
set_option maxHeartbeats 16000000 in
theorem OnD_region (ad : Addr) (N cl i j p q : Nat) (bm : Bool) (x9 x10 x11 x12 x13 x14 x15 x16 x17 x18 x19 x20 x21 x22 x23 x24 x25 x26 x27 x28 x29 x30 x31 x32 x33 x34 x35 x36 x37 x38 x39 x40 x41 : Value) (c2 c4 c5 c6 c7 c8 c42 c43 c44 c45 c46 c47 c48 c49 c50 c51 c52 c53 c54 c55 c56 c57 c58 c59 c60 c61 c62 c63 c64 c65 c66 c67 c68 c69 c70 c71 c72 c73 c74 c75 c76 c77 c78 c79 c80 c81 c82 c83 c84 c85 c86 c87 c88 c89 c90 c91 c92 c93 c94 c95 c96 c97 c98 c99 c100 c101 c102 c103 c104 c105 c106 c107 c108 c109 c110 c111 c112 c113 c114 c115 c116 c117 c118 c119 c120 c121 c122 c123 c124 c125 c126 c127 c128 c129 c130 c131 c132 c133 c134 c135 c136 c137 c138 c139 c140 c141 c142 c143 c144 c145 c146 c147 c148 : Value) (w0 W : World) (Q : Exit → Act → World → Prop) (hb0 : Below w0.heap.size w0 W) (C0 : W.cell? ⟨(ad.add (i * 6)).block, (ad.add (i * 6)).off + 5, none⟩ = some (.int .i64 (p : Int))) (C1 : W.cell? ⟨(ad.add (j * 6)).block, (ad.add (j * 6)).off + 5, none⟩ = some (.int .i64 (p : Int))) (hi : i < N) (hj : j < N) (_hN : N ≤ 1048576) (wi : IntKind.i64.wrap (i : Int) = (i : Int)) (wj : IntKind.i64.wrap (j : Int) = (j : Int)) (g0 : ((p : Int) != 0) = true) (_g0n : (p != 0) = true) (HKn : (Hid (∀ w1 : World, Below w0.heap.size w0 w1 → Calls Tryd.prog 85 #[.slice (some ad) N cl, .int .i64 ((i : Int) + 1)] w1 fun e' w' => e' = .returned (.bool true) ∧ Below w1.heap.size w1 w'))) (HKm : (Hid (∀ w1 : World, Below w0.heap.size w0 w1 → Calls Tryd.prog 85 #[.slice (some ad) N cl, .int .i64 ((j : Int) + 1)] w1 fun e' w' => e' = .returned (.bool bm) ∧ Below w1.heap.size w1 w')))
    (hQ : ∀ (w : World) , (True) → Below w0.heap.size w0 w → Q .normal { tmps := #[.slice (some ad) N cl, .int .i64 ((i : Int) + 1), c2, .int .i64 ((j : Int) + 1), c4, c5, c6, c7, c8, .bool bm, .slice (some ad) N cl, .int .i64 ((i : Int) + 1), .int .i64 (i : Int), .pointer (some (ad.add (i * 6))), .pointer (some ⟨(ad.add (i * 6)).block, (ad.add (i * 6)).off + 5, none⟩), .int .i64 (p : Int), .bool true, .bool true, .slice (some ad) N cl, .int .i64 ((j : Int) + 1), .int .i64 (j : Int), .pointer (some (ad.add (j * 6))), .pointer (some ⟨(ad.add (j * 6)).block, (ad.add (j * 6)).off + 5, none⟩), .int .i64 (p : Int), .slice (some ad) N cl, .int .i64 ((i : Int) + 1), .int .i64 (i : Int), .pointer (some (ad.add (i * 6))), .pointer (some ⟨(ad.add (i * 6)).block, (ad.add (i * 6)).off + 5, none⟩), .int .i64 (p : Int), .bool true, .bool true, .bool true, .slice (some ad) N cl, .int .i64 ((i : Int) + 1), .bool true, .bool true, .bool true, .slice (some ad) N cl, .int .i64 ((j : Int) + 1), .bool bm, .bool bm, c42, c43, c44, c45, c46, c47, c48, c49, c50, c51, c52, c53, c54, c55, c56, c57, c58, c59, c60, c61, c62, c63, c64, c65, c66, c67, c68, c69, c70, c71, c72, c73, c74, c75, c76, c77, c78, c79, c80, c81, c82, c83, c84, c85, c86, c87, c88, c89, c90, c91, c92, c93, c94, c95, c96, c97, c98, c99, c100, c101, c102, c103, c104, c105, c106, c107, c108, c109, c110, c111, c112, c113, c114, c115, c116, c117, c118, c119, c120, c121, c122, c123, c124, c125, c126, c127, c128, c129, c130, c131, c132, c133, c134, c135, c136, c137, c138, c139, c140, c141, c142, c143, c144, c145, c146, c147, c148], defers := [] } w) :
    Code.wp Tryd.prog ((Tryd.f64.body.bind (regionOf 1)).getD .skip) Q { tmps := #[.slice (some ad) N cl, .int .i64 ((i : Int) + 1), c2, .int .i64 ((j : Int) + 1), c4, c5, c6, c7, c8, x9, x10, x11, x12, x13, x14, x15, x16, x17, x18, x19, x20, x21, x22, x23, x24, x25, x26, x27, x28, x29, x30, x31, x32, x33, x34, x35, x36, x37, x38, x39, x40, x41, c42, c43, c44, c45, c46, c47, c48, c49, c50, c51, c52, c53, c54, c55, c56, c57, c58, c59, c60, c61, c62, c63, c64, c65, c66, c67, c68, c69, c70, c71, c72, c73, c74, c75, c76, c77, c78, c79, c80, c81, c82, c83, c84, c85, c86, c87, c88, c89, c90, c91, c92, c93, c94, c95, c96, c97, c98, c99, c100, c101, c102, c103, c104, c105, c106, c107, c108, c109, c110, c111, c112, c113, c114, c115, c116, c117, c118, c119, c120, c121, c122, c123, c124, c125, c126, c127, c128, c129, c130, c131, c132, c133, c134, c135, c136, c137, c138, c139, c140, c141, c142, c143, c144, c145, c146, c147, c148], defers := [] } W := by
  conv => arg 2; whnf
  refine wp_region_inv (by kernel_rfl) (by kernel_rfl) (OnDI w0 ad N cl i j p q bm c2 c4 c5 c6 c7 c8 c42 c43 c44 c45 c46 c47 c48 c49 c50 c51 c52 c53 c54 c55 c56 c57 c58 c59 c60 c61 c62 c63 c64 c65 c66 c67 c68 c69 c70 c71 c72 c73 c74 c75 c76 c77 c78 c79 c80 c81 c82 c83 c84 c85 c86 c87 c88 c89 c90 c91 c92 c93 c94 c95 c96 c97 c98 c99 c100 c101 c102 c103 c104 c105 c106 c107 c108 c109 c110 c111 c112 c113 c114 c115 c116 c117 c118 c119 c120 c121 c122 c123 c124 c125 c126 c127 c128 c129 c130 c131 c132 c133 c134 c135 c136 c137 c138 c139 c140 c141 c142 c143 c144 c145 c146 c147 c148) ?_ ?_ ?_
  · exact ⟨_, _, _, _, _, _, _, _, _, _, _, _, _, _, _, _, _, _, _, _, _, _, _, _, _, _, _, _, _, _, _, _, _, rfl, fun h => absurd h l0, fun h => absurd h l0, fun h => absurd h l0, fun h => absurd h l0, fun h => absurd h l0, fun h => absurd h l0, fun h => absurd h l0, fun h => absurd h l0, fun h => absurd h l0, fun h => absurd h l0, fun h => absurd h l0, fun h => absurd h l0, fun h => absurd h l0, fun h => absurd h l0, fun h => absurd h l0, fun h => absurd h l0, fun h => absurd h l0, fun h => absurd h l0, fun h => absurd h l0, fun h => absurd h l0, fun h => absurd h l0, fun h => absurd h l0, fun h => absurd h l0, fun h => absurd h l0, fun h => absurd h l0, fun h => absurd h l0, fun h => absurd h l0, fun h => absurd h l0, fun h => absurd h l0, fun h => absurd h l0, fun h => absurd h l0, fun h => absurd h l0, fun h => absurd h l0, bdr hb0, C0, C1⟩
  · intro i o listed A w hi ho hd hn hI
    unfold OnDI at hI
    obtain ⟨s9, hI⟩ := hI
    obtain ⟨s10, hI⟩ := hI
    obtain ⟨s11, hI⟩ := hI
    obtain ⟨s12, hI⟩ := hI
    obtain ⟨s13, hI⟩ := hI
    obtain ⟨s14, hI⟩ := hI
    obtain ⟨s15, hI⟩ := hI
    obtain ⟨s16, hI⟩ := hI
    obtain ⟨s17, hI⟩ := hI
    obtain ⟨s18, hI⟩ := hI
    obtain ⟨s19, hI⟩ := hI
    obtain ⟨s20, hI⟩ := hI
    obtain ⟨s21, hI⟩ := hI
    obtain ⟨s22, hI⟩ := hI
    obtain ⟨s23, hI⟩ := hI
    obtain ⟨s24, hI⟩ := hI
    obtain ⟨s25, hI⟩ := hI
    obtain ⟨s26, hI⟩ := hI
    obtain ⟨s27, hI⟩ := hI
    obtain ⟨s28, hI⟩ := hI
    obtain ⟨s29, hI⟩ := hI
    obtain ⟨s30, hI⟩ := hI
    obtain ⟨s31, hI⟩ := hI
    obtain ⟨s32, hI⟩ := hI
    obtain ⟨s33, hI⟩ := hI
    obtain ⟨s34, hI⟩ := hI
    obtain ⟨s35, hI⟩ := hI
    obtain ⟨s36, hI⟩ := hI
    obtain ⟨s37, hI⟩ := hI
    obtain ⟨s38, hI⟩ := hI
    obtain ⟨s39, hI⟩ := hI
    obtain ⟨s40, hI⟩ := hI
    obtain ⟨s41, hI⟩ := hI
    obtain ⟨rfl, hI⟩ := hI
    obtain ⟨F0, hI⟩ := hI
    obtain ⟨F1, hI⟩ := hI
    obtain ⟨F2, hI⟩ := hI
    obtain ⟨F3, hI⟩ := hI
    obtain ⟨F4, hI⟩ := hI
    obtain ⟨F5, hI⟩ := hI
    obtain ⟨F6, hI⟩ := hI
    obtain ⟨F7, hI⟩ := hI
    obtain ⟨F8, hI⟩ := hI
    obtain ⟨F9, hI⟩ := hI
    obtain ⟨F10, hI⟩ := hI
    obtain ⟨F11, hI⟩ := hI
    obtain ⟨F12, hI⟩ := hI
    obtain ⟨F13, hI⟩ := hI
    obtain ⟨F14, hI⟩ := hI
    obtain ⟨F15, hI⟩ := hI
    obtain ⟨F16, hI⟩ := hI
    obtain ⟨F17, hI⟩ := hI
    obtain ⟨F18, hI⟩ := hI
    obtain ⟨F19, hI⟩ := hI
    obtain ⟨F20, hI⟩ := hI
    obtain ⟨F21, hI⟩ := hI
    obtain ⟨F22, hI⟩ := hI
    obtain ⟨F23, hI⟩ := hI
    obtain ⟨F24, hI⟩ := hI
    obtain ⟨F25, hI⟩ := hI
    obtain ⟨F26, hI⟩ := hI
    obtain ⟨F27, hI⟩ := hI
    obtain ⟨F28, hI⟩ := hI
    obtain ⟨F29, hI⟩ := hI
    obtain ⟨F30, hI⟩ := hI
    obtain ⟨F31, hI⟩ := hI
    obtain ⟨F32, hI⟩ := hI
    obtain ⟨F33, hI⟩ := hI
    obtain ⟨F34, hI⟩ := hI
    have F35 := hI; clear hI
    have hi' : i < 33 := hi
    clear hi
    rcases (by omega : i = 0 ∨ i = 1 ∨ i = 2 ∨ i = 3 ∨ i = 4 ∨ i = 5 ∨ i = 6 ∨ i = 7 ∨ i = 8 ∨ i = 9 ∨ i = 10 ∨ i = 11 ∨ i = 12 ∨ i = 13 ∨ i = 14 ∨ i = 15 ∨ i = 16 ∨ i = 17 ∨ i = 18 ∨ i = 19 ∨ i = 20 ∨ i = 21 ∨ i = 22 ∨ i = 23 ∨ i = 24 ∨ i = 25 ∨ i = 26 ∨ i = 27 ∨ i = 28 ∨ i = 29 ∨ i = 30 ∨ i = 31 ∨ i = 32) with rfl | rfl | rfl | rfl | rfl | rfl | rfl | rfl | rfl | rfl | rfl | rfl | rfl | rfl | rfl | rfl | rfl | rfl | rfl | rfl | rfl | rfl | rfl | rfl | rfl | rfl | rfl | rfl | rfl | rfl | rfl | rfl | rfl
    · simp only [List.getElem?_toArray, List.getElem?_cons_zero, Option.some.injEq] at ho
      subst ho
      refine wpOp_step rfl (fun K hK => ?_)
      go_simp
      refine hK _ _ ?_
      exact ⟨_, _, _, _, _, _, _, _, _, _, _, _, _, _, _, _, _, _, _, _, _, _, _, _, _, _, _, _, _, _, _, _, _, rfl, fun _ => rfl, lk F1, lk F2, lk F3, lk F4, lk F5, lk F6, lk F7, lk F8, lk F9, lk F10, lk F11, lk F12, lk F13, lk F14, lk F15, lk F16, lk F17, lk F18, lk F19, lk F20, lk F21, lk F22, lk F23, lk F24, lk F25, lk F26, lk F27, lk F28, lk F29, lk F30, lk F31, lk F32, F33, F34, F35⟩
    · simp only [List.getElem?_toArray, List.getElem?_cons_zero, List.getElem?_cons_succ, Option.some.injEq] at ho
      subst ho
      refine wpOp_step rfl (fun K hK => ?_)
      go_simp
      refine hK _ _ ?_
      exact ⟨_, _, _, _, _, _, _, _, _, _, _, _, _, _, _, _, _, _, _, _, _, _, _, _, _, _, _, _, _, _, _, _, _, rfl, lk F0, fun _ => rfl, lk F2, lk F3, lk F4, lk F5, lk F6, lk F7, lk F8, lk F9, lk F10, lk F11, lk F12, lk F13, lk F14, lk F15, lk F16, lk F17, lk F18, lk F19, lk F20, lk F21, lk F22, lk F23, lk F24, lk F25, lk F26, lk F27, lk F28, lk F29, lk F30, lk F31, lk F32, F33, F34, F35⟩
    · simp only [List.getElem?_toArray, List.getElem?_cons_zero, List.getElem?_cons_succ, Option.some.injEq] at ho
      subst ho
      obtain rfl := F1 (hd ⟨1, .data⟩ (by simp) rfl)
      refine wpOp_step rfl (fun K hK => ?_)
      go_simp
      try rw [wi]
      refine hK _ _ ?_
      exact ⟨_, _, _, _, _, _, _, _, _, _, _, _, _, _, _, _, _, _, _, _, _, _, _, _, _, _, _, _, _, _, _, _, _, rfl, lk F0, lk F1, fun _ => rfl, lk F3, lk F4, lk F5, lk F6, lk F7, lk F8, lk F9, lk F10, lk F11, lk F12, lk F13, lk F14, lk F15, lk F16, lk F17, lk F18, lk F19, lk F20, lk F21, lk F22, lk F23, lk F24, lk F25, lk F26, lk F27, lk F28, lk F29, lk F30, lk F31, lk F32, F33, F34, F35⟩
    · simp only [List.getElem?_toArray, List.getElem?_cons_zero, List.getElem?_cons_succ, Option.some.injEq] at ho
      subst ho
      obtain rfl := F0 (hd ⟨0, .data⟩ (by simp) rfl)
      obtain rfl := F2 (hd ⟨2, .data⟩ (by simp) rfl)
      refine wpOp_step rfl (fun K hK => ?_)
      go_simp
      refine hK _ _ ?_
      exact ⟨_, _, _, _, _, _, _, _, _, _, _, _, _, _, _, _, _, _, _, _, _, _, _, _, _, _, _, _, _, _, _, _, _, rfl, lk F0, lk F1, lk F2, fun _ => rfl, lk F4, lk F5, lk F6, lk F7, lk F8, lk F9, lk F10, lk F11, lk F12, lk F13, lk F14, lk F15, lk F16, lk F17, lk F18, lk F19, lk F20, lk F21, lk F22, lk F23, lk F24, lk F25, lk F26, lk F27, lk F28, lk F29, lk F30, lk F31, lk F32, F33, F34, F35⟩
    · simp only [List.getElem?_toArray, List.getElem?_cons_zero, List.getElem?_cons_succ, Option.some.injEq] at ho
      subst ho
      obtain rfl := F3 (hd ⟨3, .data⟩ (by simp) rfl)
      refine wpOp_step rfl (fun K hK => ?_)
      go_simp
      refine hK _ _ ?_
      exact ⟨_, _, _, _, _, _, _, _, _, _, _, _, _, _, _, _, _, _, _, _, _, _, _, _, _, _, _, _, _, _, _, _, _, rfl, lk F0, lk F1, lk F2, lk F3, fun _ => rfl, lk F5, lk F6, lk F7, lk F8, lk F9, lk F10, lk F11, lk F12, lk F13, lk F14, lk F15, lk F16, lk F17, lk F18, lk F19, lk F20, lk F21, lk F22, lk F23, lk F24, lk F25, lk F26, lk F27, lk F28, lk F29, lk F30, lk F31, lk F32, F33, F34, F35⟩
    · simp only [List.getElem?_toArray, List.getElem?_cons_zero, List.getElem?_cons_succ, Option.some.injEq] at ho
      subst ho
      obtain rfl := F4 (hd ⟨4, .data⟩ (by simp) rfl)
      have h0 := F34; have h1 := F35
      refine wpOp_step rfl (fun K hK => ?_)
      go_simp
      refine hK _ _ ?_
      exact ⟨_, _, _, _, _, _, _, _, _, _, _, _, _, _, _, _, _, _, _, _, _, _, _, _, _, _, _, _, _, _, _, _, _, rfl, lk F0, lk F1, lk F2, lk F3, lk F4, fun _ => rfl, lk F6, lk F7, lk F8, lk F9, lk F10, lk F11, lk F12, lk F13, lk F14, lk F15, lk F16, lk F17, lk F18, lk F19, lk F20, lk F21, lk F22, lk F23, lk F24, lk F25, lk F26, lk F27, lk F28, lk F29, lk F30, lk F31, lk F32, F33, F34, F35⟩
    · simp only [List.getElem?_toArray, List.getElem?_cons_zero, List.getElem?_cons_succ, Option.some.injEq] at ho
      subst ho
      obtain rfl := F5 (hd ⟨5, .data⟩ (by simp) rfl)
      refine wpOp_step rfl (fun K hK => ?_)
      go_simp
      refine hK _ _ ?_
      exact ⟨_, _, _, _, _, _, _, _, _, _, _, _, _, _, _, _, _, _, _, _, _, _, _, _, _, _, _, _, _, _, _, _, _, rfl, lk F0, lk F1, lk F2, lk F3, lk F4, lk F5, fun _ => rfl, lk F7, lk F8, lk F9, lk F10, lk F11, lk F12, lk F13, lk F14, lk F15, lk F16, lk F17, lk F18, lk F19, lk F20, lk F21, lk F22, lk F23, lk F24, lk F25, lk F26, lk F27, lk F28, lk F29, lk F30, lk F31, lk F32, F33, F34, F35⟩
    · simp only [List.getElem?_toArray, List.getElem?_cons_zero, List.getElem?_cons_succ, Option.some.injEq] at ho
      subst ho
      obtain rfl := F6 (hd ⟨6, .data⟩ (by simp) rfl)
      refine wpOp_step rfl (fun K hK => ?_)
      go_simp
      refine hK _ _ ?_
      exact ⟨_, _, _, _, _, _, _, _, _, _, _, _, _, _, _, _, _, _, _, _, _, _, _, _, _, _, _, _, _, _, _, _, _, rfl, lk F0, lk F1, lk F2, lk F3, lk F4, lk F5, lk F6, fun _ => rfl, lk F8, lk F9, lk F10, lk F11, lk F12, lk F13, lk F14, lk F15, lk F16, lk F17, lk F18, lk F19, lk F20, lk F21, lk F22, lk F23, lk F24, lk F25, lk F26, lk F27, lk F28, lk F29, lk F30, lk F31, lk F32, F33, F34, F35⟩
    · simp only [List.getElem?_toArray, List.getElem?_cons_zero, List.getElem?_cons_succ, Option.some.injEq] at ho
      subst ho
      obtain rfl := F7 (hd ⟨7, .guard⟩ (by simp) rfl)
      refine wpOp_step rfl (fun K hK => ?_)
      go_simp
      refine hK _ _ ?_
      exact ⟨_, _, _, _, _, _, _, _, _, _, _, _, _, _, _, _, _, _, _, _, _, _, _, _, _, _, _, _, _, _, _, _, _, rfl, lk F0, lk F1, lk F2, lk F3, lk F4, lk F5, lk F6, lk F7, fun _ => rfl, lk F9, lk F10, lk F11, lk F12, lk F13, lk F14, lk F15, lk F16, lk F17, lk F18, lk F19, lk F20, lk F21, lk F22, lk F23, lk F24, lk F25, lk F26, lk F27, lk F28, lk F29, lk F30, lk F31, lk F32, F33, F34, F35⟩
    · simp only [List.getElem?_toArray, List.getElem?_cons_zero, List.getElem?_cons_succ, Option.some.injEq] at ho
      subst ho
      obtain rfl := F7 (hd ⟨7, .guard⟩ (by simp) rfl)
      refine wpOp_step rfl (fun K hK => ?_)
      go_simp
      refine hK _ _ ?_
      exact ⟨_, _, _, _, _, _, _, _, _, _, _, _, _, _, _, _, _, _, _, _, _, _, _, _, _, _, _, _, _, _, _, _, _, rfl, lk F0, lk F1, lk F2, lk F3, lk F4, lk F5, lk F6, lk F7, lk F8, fun _ => rfl, lk F10, lk F11, lk F12, lk F13, lk F14, lk F15, lk F16, lk F17, lk F18, lk F19, lk F20, lk F21, lk F22, lk F23, lk F24, lk F25, lk F26, lk F27, lk F28, lk F29, lk F30, lk F31, lk F32, F33, F34, F35⟩
    · simp only [List.getElem?_toArray, List.getElem?_cons_zero, List.getElem?_cons_succ, Option.some.injEq] at ho
      subst ho
      obtain rfl := F9 (hd ⟨9, .data⟩ (by simp) rfl)
      obtain rfl := F7 (hd ⟨7, .guard⟩ (by simp) rfl)
      refine wpOp_step rfl (fun K hK => ?_)
      go_simp
      try rw [wj]
      refine hK _ _ ?_
      exact ⟨_, _, _, _, _, _, _, _, _, _, _, _, _, _, _, _, _, _, _, _, _, _, _, _, _, _, _, _, _, _, _, _, _, rfl, lk F0, lk F1, lk F2, lk F3, lk F4, lk F5, lk F6, lk F7, lk F8, lk F9, fun _ => rfl, lk F11, lk F12, lk F13, lk F14, lk F15, lk F16, lk F17, lk F18, lk F19, lk F20, lk F21, lk F22, lk F23, lk F24, lk F25, lk F26, lk F27, lk F28, lk F29, lk F30, lk F31, lk F32, F33, F34, F35⟩
    · simp only [List.getElem?_toArray, List.getElem?_cons_zero, List.getElem?_cons_succ, Option.some.injEq] at ho
      subst ho
      obtain rfl := F8 (hd ⟨8, .data⟩ (by simp) rfl)
      obtain rfl := F10 (hd ⟨10, .data⟩ (by simp) rfl)
      obtain rfl := F7 (hd ⟨7, .guard⟩ (by simp) rfl)
      refine wpOp_step rfl (fun K hK => ?_)
      go_simp
      refine hK _ _ ?_
      exact ⟨_, _, _, _, _, _, _, _, _, _, _, _, _, _, _, _, _, _, _, _, _, _, _, _, _, _, _, _, _, _, _, _, _, rfl, lk F0, lk F1, lk F2, lk F3, lk F4, lk F5, lk F6, lk F7, lk F8, lk F9, lk F10, fun _ => rfl, lk F12, lk F13, lk F14, lk F15, lk F16, lk F17, lk F18, lk F19, lk F20, lk F21, lk F22, lk F23, lk F24, lk F25, lk F26, lk F27, lk F28, lk F29, lk F30, lk F31, lk F32, F33, F34, F35⟩
    · simp only [List.getElem?_toArray, List.getElem?_cons_zero, List.getElem?_cons_succ, Option.some.injEq] at ho
      subst ho
      obtain rfl := F11 (hd ⟨11, .data⟩ (by simp) rfl)
      obtain rfl := F7 (hd ⟨7, .guard⟩ (by simp) rfl)
      refine wpOp_step rfl (fun K hK => ?_)
      go_simp
      refine hK _ _ ?_
      exact ⟨_, _, _, _, _, _, _, _, _, _, _, _, _, _, _, _, _, _, _, _, _, _, _, _, _, _, _, _, _, _, _, _, _, rfl, lk F0, lk F1, lk F2, lk F3, lk F4, lk F5, lk F6, lk F7, lk F8, lk F9, lk F10, lk F11, fun _ => rfl, lk F13, lk F14, lk F15, lk F16, lk F17, lk F18, lk F19, lk F20, lk F21, lk F22, lk F23, lk F24, lk F25, lk F26, lk F27, lk F28, lk F29, lk F30, lk F31, lk F32, F33, F34, F35⟩
    · simp only [List.getElem?_toArray, List.getElem?_cons_zero, List.getElem?_cons_succ, Option.some.injEq] at ho
      subst ho
      obtain rfl := F12 (hd ⟨12, .data⟩ (by simp) rfl)
      obtain rfl := F7 (hd ⟨7, .guard⟩ (by simp) rfl)
      have h0 := F34; have h1 := F35
      refine wpOp_step rfl (fun K hK => ?_)
      go_simp
      refine hK _ _ ?_
      exact ⟨_, _, _, _, _, _, _, _, _, _, _, _, _, _, _, _, _, _, _, _, _, _, _, _, _, _, _, _, _, _, _, _, _, rfl, lk F0, lk F1, lk F2, lk F3, lk F4, lk F5, lk F6, lk F7, lk F8, lk F9, lk F10, lk F11, lk F12, fun _ => rfl, lk F14, lk F15, lk F16, lk F17, lk F18, lk F19, lk F20, lk F21, lk F22, lk F23, lk F24, lk F25, lk F26, lk F27, lk F28, lk F29, lk F30, lk F31, lk F32, F33, F34, F35⟩
    · simp only [List.getElem?_toArray, List.getElem?_cons_zero, List.getElem?_cons_succ, Option.some.injEq] at ho
      subst ho
      obtain rfl := F7 (hd ⟨7, .guard⟩ (by simp) rfl)
      refine wpOp_step rfl (fun K hK => ?_)
      go_simp
      refine hK _ _ ?_
      exact ⟨_, _, _, _, _, _, _, _, _, _, _, _, _, _, _, _, _, _, _, _, _, _, _, _, _, _, _, _, _, _, _, _, _, rfl, lk F0, lk F1, lk F2, lk F3, lk F4, lk F5, lk F6, lk F7, lk F8, lk F9, lk F10, lk F11, lk F12, lk F13, fun _ => rfl, lk F15, lk F16, lk F17, lk F18, lk F19, lk F20, lk F21, lk F22, lk F23, lk F24, lk F25, lk F26, lk F27, lk F28, lk F29, lk F30, lk F31, lk F32, F33, F34, F35⟩
    · simp only [List.getElem?_toArray, List.getElem?_cons_zero, List.getElem?_cons_succ, Option.some.injEq] at ho
      subst ho
      obtain rfl := F7 (hd ⟨7, .guard⟩ (by simp) rfl)
      refine wpOp_step rfl (fun K hK => ?_)
      go_simp
      refine hK _ _ ?_
      exact ⟨_, _, _, _, _, _, _, _, _, _, _, _, _, _, _, _, _, _, _, _, _, _, _, _, _, _, _, _, _, _, _, _, _, rfl, lk F0, lk F1, lk F2, lk F3, lk F4, lk F5, lk F6, lk F7, lk F8, lk F9, lk F10, lk F11, lk F12, lk F13, lk F14, fun _ => rfl, lk F16, lk F17, lk F18, lk F19, lk F20, lk F21, lk F22, lk F23, lk F24, lk F25, lk F26, lk F27, lk F28, lk F29, lk F30, lk F31, lk F32, F33, F34, F35⟩
    · simp only [List.getElem?_toArray, List.getElem?_cons_zero, List.getElem?_cons_succ, Option.some.injEq] at ho
      subst ho
      obtain rfl := F15 (hd ⟨15, .data⟩ (by simp) rfl)
      obtain rfl := F7 (hd ⟨7, .guard⟩ (by simp) rfl)
      refine wpOp_step rfl (fun K hK => ?_)
      go_simp
      try rw [wi]
      refine hK _ _ ?_
      exact ⟨_, _, _, _, _, _, _, _, _, _, _, _, _, _, _, _, _, _, _, _, _, _, _, _, _, _, _, _, _, _, _, _, _, rfl, lk F0, lk F1, lk F2, lk F3, lk F4, lk F5, lk F6, lk F7, lk F8, lk F9, lk F10, lk F11, lk F12, lk F13, lk F14, lk F15, fun _ => rfl, lk F17, lk F18, lk F19, lk F20, lk F21, lk F22, lk F23, lk F24, lk F25, lk F26, lk F27, lk F28, lk F29, lk F30, lk F31, lk F32, F33, F34, F35⟩
    · simp only [List.getElem?_toArray, List.getElem?_cons_zero, List.getElem?_cons_succ, Option.some.injEq] at ho
      subst ho
      obtain rfl := F14 (hd ⟨14, .data⟩ (by simp) rfl)
      obtain rfl := F16 (hd ⟨16, .data⟩ (by simp) rfl)
      obtain rfl := F7 (hd ⟨7, .guard⟩ (by simp) rfl)
      refine wpOp_step rfl (fun K hK => ?_)
      go_simp
      refine hK _ _ ?_
      exact ⟨_, _, _, _, _, _, _, _, _, _, _, _, _, _, _, _, _, _, _, _, _, _, _, _, _, _, _, _, _, _, _, _, _, rfl, lk F0, lk F1, lk F2, lk F3, lk F4, lk F5, lk F6, lk F7, lk F8, lk F9, lk F10, lk F11, lk F12, lk F13, lk F14, lk F15, lk F16, fun _ => rfl, lk F18, lk F19, lk F20, lk F21, lk F22, lk F23, lk F24, lk F25, lk F26, lk F27, lk F28, lk F29, lk F30, lk F31, lk F32, F33, F34, F35⟩
    · simp only [List.getElem?_toArray, List.getElem?_cons_zero, List.getElem?_cons_succ, Option.some.injEq] at ho
      subst ho
      obtain rfl := F17 (hd ⟨17, .data⟩ (by simp) rfl)
      obtain rfl := F7 (hd ⟨7, .guard⟩ (by simp) rfl)
      refine wpOp_step rfl (fun K hK => ?_)
      go_simp
      refine hK _ _ ?_
      exact ⟨_, _, _, _, _, _, _, _, _, _, _, _, _, _, _, _, _, _, _, _, _, _, _, _, _, _, _, _, _, _, _, _, _, rfl, lk F0, lk F1, lk F2, lk F3, lk F4, lk F5, lk F6, lk F7, lk F8, lk F9, lk F10, lk F11, lk F12, lk F13, lk F14, lk F15, lk F16, lk F17, fun _ => rfl, lk F19, lk F20, lk F21, lk F22, lk F23, lk F24, lk F25, lk F26, lk F27, lk F28, lk F29, lk F30, lk F31, lk F32, F33, F34, F35⟩
    · simp only [List.getElem?_toArray, List.getElem?_cons_zero, List.getElem?_cons_succ, Option.some.injEq] at ho
      subst ho
      obtain rfl := F18 (hd ⟨18, .data⟩ (by simp) rfl)
      obtain rfl := F7 (hd ⟨7, .guard⟩ (by simp) rfl)
      have h0 := F34; have h1 := F35
      refine wpOp_step rfl (fun K hK => ?_)
      go_simp
      refine hK _ _ ?_
      exact ⟨_, _, _, _, _, _, _, _, _, _, _, _, _, _, _, _, _, _, _, _, _, _, _, _, _, _, _, _, _, _, _, _, _, rfl, lk F0, lk F1, lk F2, lk F3, lk F4, lk F5, lk F6, lk F7, lk F8, lk F9, lk F10, lk F11, lk F12, lk F13, lk F14, lk F15, lk F16, lk F17, lk F18, fun _ => rfl, lk F20, lk F21, lk F22, lk F23, lk F24, lk F25, lk F26, lk F27, lk F28, lk F29, lk F30, lk F31, lk F32, F33, F34, F35⟩
    · simp only [List.getElem?_toArray, List.getElem?_cons_zero, List.getElem?_cons_succ, Option.some.injEq] at ho
      subst ho
      obtain rfl := F13 (hd ⟨13, .data⟩ (by simp) rfl)
      obtain rfl := F19 (hd ⟨19, .data⟩ (by simp) rfl)
      obtain rfl := F7 (hd ⟨7, .guard⟩ (by simp) rfl)
      refine wpOp_step rfl (fun K hK => ?_)
      go_simp
      refine hK _ _ ?_
      exact ⟨_, _, _, _, _, _, _, _, _, _, _, _, _, _, _, _, _, _, _, _, _, _, _, _, _, _, _, _, _, _, _, _, _, rfl, lk F0, lk F1, lk F2, lk F3, lk F4, lk F5, lk F6, lk F7, lk F8, lk F9, lk F10, lk F11, lk F12, lk F13, lk F14, lk F15, lk F16, lk F17, lk F18, lk F19, fun _ => rfl, lk F21, lk F22, lk F23, lk F24, lk F25, lk F26, lk F27, lk F28, lk F29, lk F30, lk F31, lk F32, F33, F34, F35⟩
    · simp only [List.getElem?_toArray, List.getElem?_cons_zero, List.getElem?_cons_succ, Option.some.injEq] at ho
      subst ho
      obtain rfl := F7 (hd ⟨7, .data⟩ (by simp) rfl)
      obtain rfl := F20 (hd ⟨20, .data⟩ (by simp) rfl)
      refine wpOp_step rfl (fun K hK => ?_)
      go_simp
      refine hK _ _ ?_
      exact ⟨_, _, _, _, _, _, _, _, _, _, _, _, _, _, _, _, _, _, _, _, _, _, _, _, _, _, _, _, _, _, _, _, _, rfl, lk F0, lk F1, lk F2, lk F3, lk F4, lk F5, lk F6, lk F7, lk F8, lk F9, lk F10, lk F11, lk F12, lk F13, lk F14, lk F15, lk F16, lk F17, lk F18, lk F19, lk F20, fun _ => rfl, lk F22, lk F23, lk F24, lk F25, lk F26, lk F27, lk F28, lk F29, lk F30, lk F31, lk F32, F33, F34, F35⟩
    · simp only [List.getElem?_toArray, List.getElem?_cons_zero, List.getElem?_cons_succ, Option.some.injEq] at ho
      subst ho
      obtain rfl := F21 (hd ⟨21, .data⟩ (by simp) rfl)
      refine wpOp_step rfl (fun K hK => ?_)
      go_simp
      refine hK _ _ ?_
      exact ⟨_, _, _, _, _, _, _, _, _, _, _, _, _, _, _, _, _, _, _, _, _, _, _, _, _, _, _, _, _, _, _, _, _, rfl, lk F0, lk F1, lk F2, lk F3, lk F4, lk F5, lk F6, lk F7, lk F8, lk F9, lk F10, lk F11, lk F12, lk F13, lk F14, lk F15, lk F16, lk F17, lk F18, lk F19, lk F20, lk F21, fun _ => rfl, lk F23, lk F24, lk F25, lk F26, lk F27, lk F28, lk F29, lk F30, lk F31, lk F32, F33, F34, F35⟩
    · simp only [List.getElem?_toArray, List.getElem?_cons_zero, List.getElem?_cons_succ, Option.some.injEq] at ho
      subst ho
      obtain rfl := F22 (hd ⟨22, .guard⟩ (by simp) rfl)
      refine wpOp_step rfl (fun K hK => ?_)
      go_simp
      refine hK _ _ ?_
      exact ⟨_, _, _, _, _, _, _, _, _, _, _, _, _, _, _, _, _, _, _, _, _, _, _, _, _, _, _, _, _, _, _, _, _, rfl, lk F0, lk F1, lk F2, lk F3, lk F4, lk F5, lk F6, lk F7, lk F8, lk F9, lk F10, lk F11, lk F12, lk F13, lk F14, lk F15, lk F16, lk F17, lk F18, lk F19, lk F20, lk F21, lk F22, fun _ => rfl, lk F24, lk F25, lk F26, lk F27, lk F28, lk F29, lk F30, lk F31, lk F32, F33, F34, F35⟩
    · simp only [List.getElem?_toArray, List.getElem?_cons_zero, List.getElem?_cons_succ, Option.some.injEq] at ho
      subst ho
      obtain rfl := F22 (hd ⟨22, .guard⟩ (by simp) rfl)
      refine wpOp_step rfl (fun K hK => ?_)
      go_simp
      refine hK _ _ ?_
      exact ⟨_, _, _, _, _, _, _, _, _, _, _, _, _, _, _, _, _, _, _, _, _, _, _, _, _, _, _, _, _, _, _, _, _, rfl, lk F0, lk F1, lk F2, lk F3, lk F4, lk F5, lk F6, lk F7, lk F8, lk F9, lk F10, lk F11, lk F12, lk F13, lk F14, lk F15, lk F16, lk F17, lk F18, lk F19, lk F20, lk F21, lk F22, lk F23, fun _ => rfl, lk F25, lk F26, lk F27, lk F28, lk F29, lk F30, lk F31, lk F32, F33, F34, F35⟩
    · simp only [List.getElem?_toArray, List.getElem?_cons_zero, List.getElem?_cons_succ, Option.some.injEq] at ho
      subst ho
      obtain rfl := F23 (hd ⟨23, .data⟩ (by simp) rfl)
      obtain rfl := F24 (hd ⟨24, .data⟩ (by simp) rfl)
      obtain rfl := F22 (hd ⟨22, .guard⟩ (by simp) rfl)
      refine wpOp_step rfl (fun K hK => ?_)
      go_simp
      go_at_call 85
      refine (HKn.out _ (by exact F33)).mono ?_
      rintro e' w' ⟨rfl, hb⟩
      refine hK _ _ ?_
      exact ⟨_, _, _, _, _, _, _, _, _, _, _, _, _, _, _, _, _, _, _, _, _, _, _, _, _, _, _, _, _, _, _, _, _, rfl, lk F0, lk F1, lk F2, lk F3, lk F4, lk F5, lk F6, lk F7, lk F8, lk F9, lk F10, lk F11, lk F12, lk F13, lk F14, lk F15, lk F16, lk F17, lk F18, lk F19, lk F20, lk F21, lk F22, lk F23, lk F24, fun _ => rfl, lk F26, lk F27, lk F28, lk F29, lk F30, lk F31, lk F32, bt F33 hb, cell_call F34 hb, cell_call F35 hb⟩
    · simp only [List.getElem?_toArray, List.getElem?_cons_zero, List.getElem?_cons_succ, Option.some.injEq] at ho
      subst ho
      obtain rfl := F22 (hd ⟨22, .data⟩ (by simp) rfl)
      obtain rfl := F25 (hd ⟨25, .data⟩ (by simp) rfl)
      refine wpOp_step rfl (fun K hK => ?_)
      go_simp
      refine hK _ _ ?_
      exact ⟨_, _, _, _, _, _, _, _, _, _, _, _, _, _, _, _, _, _, _, _, _, _, _, _, _, _, _, _, _, _, _, _, _, rfl, lk F0, lk F1, lk F2, lk F3, lk F4, lk F5, lk F6, lk F7, lk F8, lk F9, lk F10, lk F11, lk F12, lk F13, lk F14, lk F15, lk F16, lk F17, lk F18, lk F19, lk F20, lk F21, lk F22, lk F23, lk F24, lk F25, fun _ => rfl, lk F27, lk F28, lk F29, lk F30, lk F31, lk F32, F33, F34, F35⟩
    · simp only [List.getElem?_toArray, List.getElem?_cons_zero, List.getElem?_cons_succ, Option.some.injEq] at ho
      subst ho
      obtain rfl := F26 (hd ⟨26, .data⟩ (by simp) rfl)
      refine wpOp_step rfl (fun K hK => ?_)
      go_simp
      refine hK _ _ ?_
      exact ⟨_, _, _, _, _, _, _, _, _, _, _, _, _, _, _, _, _, _, _, _, _, _, _, _, _, _, _, _, _, _, _, _, _, rfl, lk F0, lk F1, lk F2, lk F3, lk F4, lk F5, lk F6, lk F7, lk F8, lk F9, lk F10, lk F11, lk F12, lk F13, lk F14, lk F15, lk F16, lk F17, lk F18, lk F19, lk F20, lk F21, lk F22, lk F23, lk F24, lk F25, lk F26, fun _ => rfl, lk F28, lk F29, lk F30, lk F31, lk F32, F33, F34, F35⟩
    · simp only [List.getElem?_toArray, List.getElem?_cons_zero, List.getElem?_cons_succ, Option.some.injEq] at ho
      subst ho
      obtain rfl := F27 (hd ⟨27, .guard⟩ (by simp) rfl)
      refine wpOp_step rfl (fun K hK => ?_)
      go_simp
      refine hK _ _ ?_
      exact ⟨_, _, _, _, _, _, _, _, _, _, _, _, _, _, _, _, _, _, _, _, _, _, _, _, _, _, _, _, _, _, _, _, _, rfl, lk F0, lk F1, lk F2, lk F3, lk F4, lk F5, lk F6, lk F7, lk F8, lk F9, lk F10, lk F11, lk F12, lk F13, lk F14, lk F15, lk F16, lk F17, lk F18, lk F19, lk F20, lk F21, lk F22, lk F23, lk F24, lk F25, lk F26, lk F27, fun _ => rfl, lk F29, lk F30, lk F31, lk F32, F33, F34, F35⟩
    · simp only [List.getElem?_toArray, List.getElem?_cons_zero, List.getElem?_cons_succ, Option.some.injEq] at ho
      subst ho
      obtain rfl := F27 (hd ⟨27, .guard⟩ (by simp) rfl)
      refine wpOp_step rfl (fun K hK => ?_)
      go_simp
      refine hK _ _ ?_
      exact ⟨_, _, _, _, _, _, _, _, _, _, _, _, _, _, _, _, _, _, _, _, _, _, _, _, _, _, _, _, _, _, _, _, _, rfl, lk F0, lk F1, lk F2, lk F3, lk F4, lk F5, lk F6, lk F7, lk F8, lk F9, lk F10, lk F11, lk F12, lk F13, lk F14, lk F15, lk F16, lk F17, lk F18, lk F19, lk F20, lk F21, lk F22, lk F23, lk F24, lk F25, lk F26, lk F27, lk F28, fun _ => rfl, lk F30, lk F31, lk F32, F33, F34, F35⟩
    · simp only [List.getElem?_toArray, List.getElem?_cons_zero, List.getElem?_cons_succ, Option.some.injEq] at ho
      subst ho
      obtain rfl := F28 (hd ⟨28, .data⟩ (by simp) rfl)
      obtain rfl := F29 (hd ⟨29, .data⟩ (by simp) rfl)
      obtain rfl := F27 (hd ⟨27, .guard⟩ (by simp) rfl)
      refine wpOp_step rfl (fun K hK => ?_)
      go_simp
      go_at_call 85
      refine (HKm.out _ (by exact F33)).mono ?_
      rintro e' w' ⟨rfl, hb⟩
      refine hK _ _ ?_
      exact ⟨_, _, _, _, _, _, _, _, _, _, _, _, _, _, _, _, _, _, _, _, _, _, _, _, _, _, _, _, _, _, _, _, _, rfl, lk F0, lk F1, lk F2, lk F3, lk F4, lk F5, lk F6, lk F7, lk F8, lk F9, lk F10, lk F11, lk F12, lk F13, lk F14, lk F15, lk F16, lk F17, lk F18, lk F19, lk F20, lk F21, lk F22, lk F23, lk F24, lk F25, lk F26, lk F27, lk F28, lk F29, fun _ => rfl, lk F31, lk F32, bt F33 hb, cell_call F34 hb, cell_call F35 hb⟩
    · simp only [List.getElem?_toArray, List.getElem?_cons_zero, List.getElem?_cons_succ, Option.some.injEq] at ho
      subst ho
      obtain rfl := F27 (hd ⟨27, .data⟩ (by simp) rfl)
      obtain rfl := F30 (hd ⟨30, .data⟩ (by simp) rfl)
      refine wpOp_step rfl (fun K hK => ?_)
      go_simp
      refine hK _ _ ?_
      exact ⟨_, _, _, _, _, _, _, _, _, _, _, _, _, _, _, _, _, _, _, _, _, _, _, _, _, _, _, _, _, _, _, _, _, rfl, lk F0, lk F1, lk F2, lk F3, lk F4, lk F5, lk F6, lk F7, lk F8, lk F9, lk F10, lk F11, lk F12, lk F13, lk F14, lk F15, lk F16, lk F17, lk F18, lk F19, lk F20, lk F21, lk F22, lk F23, lk F24, lk F25, lk F26, lk F27, lk F28, lk F29, lk F30, fun _ => rfl, lk F32, F33, F34, F35⟩
    · simp only [List.getElem?_toArray, List.getElem?_cons_zero, List.getElem?_cons_succ, Option.some.injEq] at ho
      subst ho
      obtain rfl := F31 (hd ⟨31, .data⟩ (by simp) rfl)
      refine wpOp_step rfl (fun K hK => ?_)
      go_simp
      refine hK _ _ ?_
      exact ⟨_, _, _, _, _, _, _, _, _, _, _, _, _, _, _, _, _, _, _, _, _, _, _, _, _, _, _, _, _, _, _, _, _, rfl, lk F0, lk F1, lk F2, lk F3, lk F4, lk F5, lk F6, lk F7, lk F8, lk F9, lk F10, lk F11, lk F12, lk F13, lk F14, lk F15, lk F16, lk F17, lk F18, lk F19, lk F20, lk F21, lk F22, lk F23, lk F24, lk F25, lk F26, lk F27, lk F28, lk F29, lk F30, lk F31, fun _ => rfl, F33, F34, F35⟩
  · intro listed A w hall hI
    unfold OnDI at hI
    obtain ⟨s9, hI⟩ := hI
    obtain ⟨s10, hI⟩ := hI
    obtain ⟨s11, hI⟩ := hI
    obtain ⟨s12, hI⟩ := hI
    obtain ⟨s13, hI⟩ := hI
    obtain ⟨s14, hI⟩ := hI
    obtain ⟨s15, hI⟩ := hI
    obtain ⟨s16, hI⟩ := hI
    obtain ⟨s17, hI⟩ := hI
    obtain ⟨s18, hI⟩ := hI
    obtain ⟨s19, hI⟩ := hI
    obtain ⟨s20, hI⟩ := hI
    obtain ⟨s21, hI⟩ := hI
    obtain ⟨s22, hI⟩ := hI
    obtain ⟨s23, hI⟩ := hI
    obtain ⟨s24, hI⟩ := hI
    obtain ⟨s25, hI⟩ := hI
    obtain ⟨s26, hI⟩ := hI
    obtain ⟨s27, hI⟩ := hI
    obtain ⟨s28, hI⟩ := hI
    obtain ⟨s29, hI⟩ := hI
    obtain ⟨s30, hI⟩ := hI
    obtain ⟨s31, hI⟩ := hI
    obtain ⟨s32, hI⟩ := hI
    obtain ⟨s33, hI⟩ := hI
    obtain ⟨s34, hI⟩ := hI
    obtain ⟨s35, hI⟩ := hI
    obtain ⟨s36, hI⟩ := hI
    obtain ⟨s37, hI⟩ := hI
    obtain ⟨s38, hI⟩ := hI
    obtain ⟨s39, hI⟩ := hI
    obtain ⟨s40, hI⟩ := hI
    obtain ⟨s41, hI⟩ := hI
    obtain ⟨rfl, hI⟩ := hI
    obtain ⟨F0, hI⟩ := hI
    obtain ⟨F1, hI⟩ := hI
    obtain ⟨F2, hI⟩ := hI
    obtain ⟨F3, hI⟩ := hI
    obtain ⟨F4, hI⟩ := hI
    obtain ⟨F5, hI⟩ := hI
    obtain ⟨F6, hI⟩ := hI
    obtain ⟨F7, hI⟩ := hI
    obtain ⟨F8, hI⟩ := hI
    obtain ⟨F9, hI⟩ := hI
    obtain ⟨F10, hI⟩ := hI
    obtain ⟨F11, hI⟩ := hI
    obtain ⟨F12, hI⟩ := hI
    obtain ⟨F13, hI⟩ := hI
    obtain ⟨F14, hI⟩ := hI
    obtain ⟨F15, hI⟩ := hI
    obtain ⟨F16, hI⟩ := hI
    obtain ⟨F17, hI⟩ := hI
    obtain ⟨F18, hI⟩ := hI
    obtain ⟨F19, hI⟩ := hI
    obtain ⟨F20, hI⟩ := hI
    obtain ⟨F21, hI⟩ := hI
    obtain ⟨F22, hI⟩ := hI
    obtain ⟨F23, hI⟩ := hI
    obtain ⟨F24, hI⟩ := hI
    obtain ⟨F25, hI⟩ := hI
    obtain ⟨F26, hI⟩ := hI
    obtain ⟨F27, hI⟩ := hI
    obtain ⟨F28, hI⟩ := hI
    obtain ⟨F29, hI⟩ := hI
    obtain ⟨F30, hI⟩ := hI
    obtain ⟨F31, hI⟩ := hI
    obtain ⟨F32, hI⟩ := hI
    obtain ⟨F33, hI⟩ := hI
    obtain ⟨F34, hI⟩ := hI
    have F35 := hI; clear hI
    obtain rfl := F0 (hall 0 (by decide))
    obtain rfl := F1 (hall 1 (by decide))
    obtain rfl := F2 (hall 2 (by decide))
    obtain rfl := F3 (hall 3 (by decide))
    obtain rfl := F4 (hall 4 (by decide))
    obtain rfl := F5 (hall 5 (by decide))
    obtain rfl := F6 (hall 6 (by decide))
    obtain rfl := F7 (hall 7 (by decide))
    obtain rfl := F8 (hall 8 (by decide))
    obtain rfl := F9 (hall 9 (by decide))
    obtain rfl := F10 (hall 10 (by decide))
    obtain rfl := F11 (hall 11 (by decide))
    obtain rfl := F12 (hall 12 (by decide))
    obtain rfl := F13 (hall 13 (by decide))
    obtain rfl := F14 (hall 14 (by decide))
    obtain rfl := F15 (hall 15 (by decide))
    obtain rfl := F16 (hall 16 (by decide))
    obtain rfl := F17 (hall 17 (by decide))
    obtain rfl := F18 (hall 18 (by decide))
    obtain rfl := F19 (hall 19 (by decide))
    obtain rfl := F20 (hall 20 (by decide))
    obtain rfl := F21 (hall 21 (by decide))
    obtain rfl := F22 (hall 22 (by decide))
    obtain rfl := F23 (hall 23 (by decide))
    obtain rfl := F24 (hall 24 (by decide))
    obtain rfl := F25 (hall 25 (by decide))
    obtain rfl := F26 (hall 26 (by decide))
    obtain rfl := F27 (hall 27 (by decide))
    obtain rfl := F28 (hall 28 (by decide))
    obtain rfl := F29 (hall 29 (by decide))
    obtain rfl := F30 (hall 30 (by decide))
    obtain rfl := F31 (hall 31 (by decide))
    obtain rfl := F32 (hall 32 (by decide))
    have HB := F33
    have Q0 := F34
    have Q1 := F35
    exact hQ _ trivial HB
end Go.Proofs.YtcmlfkoeajpliaaDoor
namespace Go.Proofs.YtcmlfkoeajpliaaDoor
open Go.RowKit Go.Lib
set_option maxRecDepth 100000
set_option maxHeartbeats 16000000
theorem on_region (ad : Addr) (N cl i j p q : Nat) (bn bm sm : Bool) (hsm : sm = (decide (p ≠ 0) && decide (q = p) && bn && bm)) (x9 x10 x11 x12 x13 x14 x15 x16 x17 x18 x19 x20 x21 x22 x23 x24 x25 x26 x27 x28 x29 x30 x31 x32 x33 x34 x35 x36 x37 x38 x39 x40 x41 c2 c4 c5 c6 c7 c8 c42 c43 c44 c45 c46 c47 c48 c49 c50 c51 c52 c53 c54 c55 c56 c57 c58 c59 c60 c61 c62 c63 c64 c65 c66 c67 c68 c69 c70 c71 c72 c73 c74 c75 c76 c77 c78 c79 c80 c81 c82 c83 c84 c85 c86 c87 c88 c89 c90 c91 c92 c93 c94 c95 c96 c97 c98 c99 c100 c101 c102 c103 c104 c105 c106 c107 c108 c109 c110 c111 c112 c113 c114 c115 c116 c117 c118 c119 c120 c121 c122 c123 c124 c125 c126 c127 c128 c129 c130 c131 c132 c133 c134 c135 c136 c137 c138 c139 c140 c141 c142 c143 c144 c145 c146 c147 c148 : Value) (w0 W : World) (Q : Exit → Act → World → Prop) (hb0 : Below w0.heap.size w0 W)
    (C0 : W.cell? ⟨(ad.add (i * 6)).block, (ad.add (i * 6)).off + 5, none⟩ = some (.int .i64 (p : Int))) (C1 : W.cell? ⟨(ad.add (j * 6)).block, (ad.add (j * 6)).off + 5, none⟩ = some (.int .i64 (q : Int))) (hi : i < N) (hj : j < N) (hN : N ≤ 1048576)
    (HKn : (Hid (∀ w1 : World, Below w0.heap.size w0 w1 → Calls Tryd.prog 85 #[.slice (some ad) N cl, .int .i64 ((i : Int) + 1)] w1 fun e' w' => e' = .returned (.bool bn) ∧ Below w1.heap.size w1 w'))) (HKm : (Hid (∀ w1 : World, Below w0.heap.size w0 w1 → Calls Tryd.prog 85 #[.slice (some ad) N cl, .int .i64 ((j : Int) + 1)] w1 fun e' w' => e' = .returned (.bool bm) ∧ Below w1.heap.size w1 w')))
    (hQ : ∀ (w : World) (t10 t11 t12 t13 t14 t15 t16 t17 t18 t19 t20 t21 t22 t23 t24 t25 t26 t27 t28 t29 t30 t31 t32 t33 t34 t35 t36 t37 t38 t39 t40 t41 : Value), Below w0.heap.size w0 w → Q .normal { tmps := #[.slice (some ad) N cl, .int .i64 ((i : Int) + 1), c2, .int .i64 ((j : Int) + 1), c4, c5, c6, c7, c8, .bool sm, t10, t11, t12, t13, t14, t15, t16, t17, t18, t19, t20, t21, t22, t23, t24, t25, t26, t27, t28, t29, t30, t31, t32, t33, t34, t35, t36, t37, t38, t39, t40, t41, c42, c43, c44, c45, c46, c47, c48, c49, c50, c51, c52, c53, c54, c55, c56, c57, c58, c59, c60, c61, c62, c63, c64, c65, c66, c67, c68, c69, c70, c71, c72, c73, c74, c75, c76, c77, c78, c79, c80, c81, c82, c83, c84, c85, c86, c87, c88, c89, c90, c91, c92, c93, c94, c95, c96, c97, c98, c99, c100, c101, c102, c103, c104, c105, c106, c107, c108, c109, c110, c111, c112, c113, c114, c115, c116, c117, c118, c119, c120, c121, c122, c123, c124, c125, c126, c127, c128, c129, c130, c131, c132, c133, c134, c135, c136, c137, c138, c139, c140, c141, c142, c143, c144, c145, c146, c147, c148], defers := [] } w) :
    Code.wp Tryd.prog ((Tryd.f64.body.bind (regionOf 1)).getD .skip) Q { tmps := #[.slice (some ad) N cl, .int .i64 ((i : Int) + 1), c2, .int .i64 ((j : Int) + 1), c4, c5, c6, c7, c8, x9, x10, x11, x12, x13, x14, x15, x16, x17, x18, x19, x20, x21, x22, x23, x24, x25, x26, x27, x28, x29, x30, x31, x32, x33, x34, x35, x36, x37, x38, x39, x40, x41, c42, c43, c44, c45, c46, c47, c48, c49, c50, c51, c52, c53, c54, c55, c56, c57, c58, c59, c60, c61, c62, c63, c64, c65, c66, c67, c68, c69, c70, c71, c72, c73, c74, c75, c76, c77, c78, c79, c80, c81, c82, c83, c84, c85, c86, c87, c88, c89, c90, c91, c92, c93, c94, c95, c96, c97, c98, c99, c100, c101, c102, c103, c104, c105, c106, c107, c108, c109, c110, c111, c112, c113, c114, c115, c116, c117, c118, c119, c120, c121, c122, c123, c124, c125, c126, c127, c128, c129, c130, c131, c132, c133, c134, c135, c136, c137, c138, c139, c140, c141, c142, c143, c144, c145, c146, c147, c148], defers := [] } W := by
  have wi : IntKind.i64.wrap (i : Int) = (i : Int) := by rw [IntKind.wrap_i64]; omega
  have wj : IntKind.i64.wrap (j : Int) = (j : Int) := by rw [IntKind.wrap_i64]; omega
  by_cases h0 : p = 0
  · subst h0
    obtain rfl : sm = false := by rw [hsm]; simp
    exact OnA_region ad N cl i j 0 q bm x9 x10 x11 x12 x13 x14 x15 x16 x17 x18 x19 x20 x21 x22 x23 x24 x25 x26 x27 x28 x29 x30 x31 x32 x33 x34 x35 x36 x37 x38 x39 x40 x41 c2 c4 c5 c6 c7 c8 c42 c43 c44 c45 c46 c47 c48 c49 c50 c51 c52 c53 c54 c55 c56 c57 c58 c59 c60 c61 c62 c63 c64 c65 c66 c67 c68 c69 c70 c71 c72 c73 c74 c75 c76 c77 c78 c79 c80 c81 c82 c83 c84 c85 c86 c87 c88 c89 c90 c91 c92 c93 c94 c95 c96 c97 c98 c99 c100 c101 c102 c103 c104 c105 c106 c107 c108 c109 c110 c111 c112 c113 c114 c115 c116 c117 c118 c119 c120 c121 c122 c123 c124 c125 c126 c127 c128 c129 c130 c131 c132 c133 c134 c135 c136 c137 c138 c139 c140 c141 c142 c143 c144 c145 c146 c147 c148 w0 W Q hb0 C0 C1 hi hj hN wi wj (fun w _ hb => hQ w _ _ _ _ _ _ _ _ _ _ _ _ _ _ _ _ _ _ _ _ _ _ _ _ _ _ _ _ _ _ _ _ hb)
  · have g0 : ((p : Int) != 0) = true := by simpa using (by omega : ¬ (p : Int) = 0)
    have g0n : (p != 0) = true := by simpa using h0
    by_cases h1 : q = p
    · subst h1
      cases bn with
      | false =>
        obtain rfl : sm = false := by rw [hsm]; simp
        exact OnC_region ad N cl i j q q bm x9 x10 x11 x12 x13 x14 x15 x16 x17 x18 x19 x20 x21 x22 x23 x24 x25 x26 x27 x28 x29 x30 x31 x32 x33 x34 x35 x36 x37 x38 x39 x40 x41 c2 c4 c5 c6 c7 c8 c42 c43 c44 c45 c46 c47 c48 c49 c50 c51 c52 c53 c54 c55 c56 c57 c58 c59 c60 c61 c62 c63 c64 c65 c66 c67 c68 c69 c70 c71 c72 c73 c74 c75 c76 c77 c78 c79 c80 c81 c82 c83 c84 c85 c86 c87 c88 c89 c90 c91 c92 c93 c94 c95 c96 c97 c98 c99 c100 c101 c102 c103 c104 c105 c106 c107 c108 c109 c110 c111 c112 c113 c114 c115 c116 c117 c118 c119 c120 c121 c122 c123 c124 c125 c126 c127 c128 c129 c130 c131 c132 c133 c134 c135 c136 c137 c138 c139 c140 c141 c142 c143 c144 c145 c146 c147 c148 w0 W Q hb0 C0 C1 hi hj hN wi wj g0 g0n HKn (fun w _ hb => hQ w _ _ _ _ _ _ _ _ _ _ _ _ _ _ _ _ _ _ _ _ _ _ _ _ _ _ _ _ _ _ _ _ hb)
      | true =>
        obtain rfl : sm = bm := by rw [hsm]; simp [h0]
        exact OnD_region ad N cl i j q q sm x9 x10 x11 x12 x13 x14 x15 x16 x17 x18 x19 x20 x21 x22 x23 x24 x25 x26 x27 x28 x29 x30 x31 x32 x33 x34 x35 x36 x37 x38 x39 x40 x41 c2 c4 c5 c6 c7 c8 c42 c43 c44 c45 c46 c47 c48 c49 c50 c51 c52 c53 c54 c55 c56 c57 c58 c59 c60 c61 c62 c63 c64 c65 c66 c67 c68 c69 c70 c71 c72 c73 c74 c75 c76 c77 c78 c79 c80 c81 c82 c83 c84 c85 c86 c87 c88 c89 c90 c91 c92 c93 c94 c95 c96 c97 c98 c99 c100 c101 c102 c103 c104 c105 c106 c107 c108 c109 c110 c111 c112 c113 c114 c115 c116 c117 c118 c119 c120 c121 c122 c123 c124 c125 c126 c127 c128 c129 c130 c131 c132 c133 c134 c135 c136 c137 c138 c139 c140 c141 c142 c143 c144 c145 c146 c147 c148 w0 W Q hb0 C0 C1 hi hj hN wi wj g0 g0n HKn HKm (fun w _ hb => hQ w _ _ _ _ _ _ _ _ _ _ _ _ _ _ _ _ _ _ _ _ _ _ _ _ _ _ _ _ _ _ _ _ hb)
    · obtain rfl : sm = false := by rw [hsm]; simp [h1]
      exact OnB_region ad N cl i j p q bm x9 x10 x11 x12 x13 x14 x15 x16 x17 x18 x19 x20 x21 x22 x23 x24 x25 x26 x27 x28 x29 x30 x31 x32 x33 x34 x35 x36 x37 x38 x39 x40 x41 c2 c4 c5 c6 c7 c8 c42 c43 c44 c45 c46 c47 c48 c49 c50 c51 c52 c53 c54 c55 c56 c57 c58 c59 c60 c61 c62 c63 c64 c65 c66 c67 c68 c69 c70 c71 c72 c73 c74 c75 c76 c77 c78 c79 c80 c81 c82 c83 c84 c85 c86 c87 c88 c89 c90 c91 c92 c93 c94 c95 c96 c97 c98 c99 c100 c101 c102 c103 c104 c105 c106 c107 c108 c109 c110 c111 c112 c113 c114 c115 c116 c117 c118 c119 c120 c121 c122 c123 c124 c125 c126 c127 c128 c129 c130 c131 c132 c133 c134 c135 c136 c137 c138 c139 c140 c141 c142 c143 c144 c145 c146 c147 c148 w0 W Q hb0 C0 C1 hi hj hN wi wj g0 g0n (by simpa using (by omega : ¬ (q : Int) = (p : Int))) (by simpa using h1) (fun w _ hb => hQ w _ _ _ _ _ _ _ _ _ _ _ _ _ _ _ _ _ _ _ _ _ _ _ _ _ _ _ _ _ _ _ _ hb)
end Go.Proofs.YtcmlfkoeajpliaaDoor
namespace Go.Proofs.YtcmlfkoeajpliaaDoor
open Go.RowKit Go.Lib
set_option maxRecDepth 100000
set_option maxHeartbeats 16000000
theorem on_1 (ad : Addr) (N cl i j p q : Nat) (bn bm sm x1 x2 : Bool) (hsm : sm = (decide (p ≠ 0) && decide (q = p) && bn && bm)) (w : World)
    (C0 : w.cell? ⟨(ad.add (i * 6)).block, (ad.add (i * 6)).off + 5, none⟩ = some (.int .i64 (p : Int))) (C1 : w.cell? ⟨(ad.add (j * 6)).block, (ad.add (j * 6)).off + 5, none⟩ = some (.int .i64 (q : Int))) (had : ad.block < w.heap.size) (hi : i < N) (hj : j < N) (_hp : p ≤ N) (_hq : q ≤ N) (hN : N ≤ 1048576)
    (HKn : (Hid (∀ w1 : World, Below w.heap.size w w1 → Calls Tryd.prog 85 #[.slice (some ad) N cl, .int .i64 ((i : Int) + 1)] w1 fun e' w' => e' = .returned (.bool bn) ∧ Below w1.heap.size w1 w'))) (HKm : (Hid (∀ w1 : World, Below w.heap.size w w1 → Calls Tryd.prog 85 #[.slice (some ad) N cl, .int .i64 ((j : Int) + 1)] w1 fun e' w' => e' = .returned (.bool bm) ∧ Below w1.heap.size w1 w')))
    (_H1 : (Hid (∀ w1 : World, Below w.heap.size w w1 → Calls Tryd.prog 86 #[.slice (some ad) N cl, .int .i64 ((i : Int) + 1), .int .i64 ((j : Int) + 1)] w1 fun e' w' => e' = .returned (.bool x1) ∧ Below w1.heap.size w1 w'))) (_H2 : (Hid (∀ w1 : World, Below w.heap.size w w1 → Calls Tryd.prog 86 #[.slice (some ad) N cl, .int .i64 ((j : Int) + 1), .int .i64 ((i : Int) + 1)] w1 fun e' w' => e' = .returned (.bool x2) ∧ Below w1.heap.size w1 w'))) :
    Calls Tryd.prog 64 #[.slice (some ad) N cl, .int .i64 ((i : Int) + 1), .int .i64 1, .int .i64 ((j : Int) + 1)] w fun e w' => e = .returned (.bool (decide (q = i + 1) && bm)) ∧ Below w.heap.size w w' := by
  by_cases he : q = i + 1
  · have g : ((q : Int) == (i : Int) + 1) = true := by simpa using (by omega : (q : Int) = (i : Int) + 1)
    go_enter Tryd.func64, Tryd.ntmps64
    go_upto_region 1 with fail
    refine on_region ad N cl i j p q bn bm sm hsm _ _ _ _ _ _ _ _ _ _ _ _ _ _ _ _ _ _ _ _ _ _ _ _ _ _ _ _ _ _ _ _ _ _ _ _ _ _ _ _ _ _ _ _ _ _ _ _ _ _ _ _ _ _ _ _ _ _ _ _ _ _ _ _ _ _ _ _ _ _ _ _ _ _ _ _ _ _ _ _ _ _ _ _ _ _ _ _ _ _ _ _ _ _ _ _ _ _ _ _ _ _ _ _ _ _ _ _ _ _ _ _ _ _ _ _ _ _ _ _ _ _ _ _ _ _ _ _ _ _ _ _ _ _ _ _ _ _ _ _ _ _ _ _ _ _ w _ _ (Below.refl _ _) C0 C1 hi hj hN HKn HKm ?_
    clear hsm
    rintro w3 t10 t11 t12 t13 t14 t15 t16 t17 t18 t19 t20 t21 t22 t23 t24 t25 t26 t27 t28 t29 t30 t31 t32 t33 t34 t35 t36 t37 t38 t39 t40 t41 B3
    have d0 := (B3.cell (show (⟨(ad.add (i * 6)).block, (ad.add (i * 6)).off + 5, none⟩ : Addr).block < w.heap.size by show (ad.add (i * 6)).block < _; rw [block_of_add]; exact had)).trans C0
    have d1 := (B3.cell (show (⟨(ad.add (j * 6)).block, (ad.add (j * 6)).off + 5, none⟩ : Addr).block < w.heap.size by show (ad.add (j * 6)).block < _; rw [block_of_add]; exact had)).trans C1
    go_wp2_with fail
    refine (HKm.out _ B3).mono ?_
    rintro e' w4 ⟨rfl, hb4⟩
    have B4 : Below w.heap.size w w4 := bt B3 hb4
    clear hb4
    go_wp2
    go_ret
    exact ⟨by simp [he], B4⟩
  · have g : ((q : Int) == (i : Int) + 1) = false := by simpa using (by omega : ¬ (q : Int) = (i : Int) + 1)
    go_enter Tryd.func64, Tryd.ntmps64
    go_upto_region 1 with fail
    refine on_region ad N cl i j p q bn bm sm hsm _ _ _ _ _ _ _ _ _ _ _ _ _ _ _ _ _ _ _ _ _ _ _ _ _ _ _ _ _ _ _ _ _ _ _ _ _ _ _ _ _ _ _ _ _ _ _ _ _ _ _ _ _ _ _ _ _ _ _ _ _ _ _ _ _ _ _ _ _ _ _ _ _ _ _ _ _ _ _ _ _ _ _ _ _ _ _ _ _ _ _ _ _ _ _ _ _ _ _ _ _ _ _ _ _ _ _ _ _ _ _ _ _ _ _ _ _ _ _ _ _ _ _ _ _ _ _ _ _ _ _ _ _ _ _ _ _ _ _ _ _ _ _ _ _ _ w _ _ (Below.refl _ _) C0 C1 hi hj hN HKn HKm ?_
    clear hsm
    rintro w3 t10 t11 t12 t13 t14 t15 t16 t17 t18 t19 t20 t21 t22 t23 t24 t25 t26 t27 t28 t29 t30 t31 t32 t33 t34 t35 t36 t37 t38 t39 t40 t41 B3
    have d0 := (B3.cell (show (⟨(ad.add (i * 6)).block, (ad.add (i * 6)).off + 5, none⟩ : Addr).block < w.heap.size by show (ad.add (i * 6)).block < _; rw [block_of_add]; exact had)).trans C0
    have d1 := (B3.cell (show (⟨(ad.add (j * 6)).block, (ad.add (j * 6)).off + 5, none⟩ : Addr).block < w.heap.size by show (ad.add (j * 6)).block < _; rw [block_of_add]; exact had)).trans C1
    go_wp2
    go_ret
    exact ⟨by simp [he], B3⟩
theorem on_2 (ad : Addr) (N cl i j p q : Nat) (bn bm sm x1 x2 : Bool) (hsm : sm = (decide (p ≠ 0) && decide (q = p) && bn && bm)) (w : World)
    (C0 : w.cell? ⟨(ad.add (i * 6)).block, (ad.add (i * 6)).off + 5, none⟩ = some (.int .i64 (p : Int))) (C1 : w.cell? ⟨(ad.add (j * 6)).block, (ad.add (j * 6)).off + 5, none⟩ = some (.int .i64 (q : Int))) (had : ad.block < w.heap.size) (hi : i < N) (hj : j < N) (_hp : p ≤ N) (_hq : q ≤ N) (hN : N ≤ 1048576)
    (HKn : (Hid (∀ w1 : World, Below w.heap.size w w1 → Calls Tryd.prog 85 #[.slice (some ad) N cl, .int .i64 ((i : Int) + 1)] w1 fun e' w' => e' = .returned (.bool bn) ∧ Below w1.heap.size w1 w'))) (HKm : (Hid (∀ w1 : World, Below w.heap.size w w1 → Calls Tryd.prog 85 #[.slice (some ad) N cl, .int .i64 ((j : Int) + 1)] w1 fun e' w' => e' = .returned (.bool bm) ∧ Below w1.heap.size w1 w')))
    (H1 : (Hid (∀ w1 : World, Below w.heap.size w w1 → Calls Tryd.prog 86 #[.slice (some ad) N cl, .int .i64 ((i : Int) + 1), .int .i64 ((j : Int) + 1)] w1 fun e' w' => e' = .returned (.bool x1) ∧ Below w1.heap.size w1 w'))) (_H2 : (Hid (∀ w1 : World, Below w.heap.size w w1 → Calls Tryd.prog 86 #[.slice (some ad) N cl, .int .i64 ((j : Int) + 1), .int .i64 ((i : Int) + 1)] w1 fun e' w' => e' = .returned (.bool x2) ∧ Below w1.heap.size w1 w'))) :
    Calls Tryd.prog 64 #[.slice (some ad) N cl, .int .i64 ((i : Int) + 1), .int .i64 2, .int .i64 ((j : Int) + 1)] w fun e w' => e = .returned (.bool (x1 && bm)) ∧ Below w.heap.size w w' := by
  cases x1 with
  | true =>
    go_enter Tryd.func64, Tryd.ntmps64
    go_upto_region 1 with fail
    refine on_region ad N cl i j p q bn bm sm hsm _ _ _ _ _ _ _ _ _ _ _ _ _ _ _ _ _ _ _ _ _ _ _ _ _ _ _ _ _ _ _ _ _ _ _ _ _ _ _ _ _ _ _ _ _ _ _ _ _ _ _ _ _ _ _ _ _ _ _ _ _ _ _ _ _ _ _ _ _ _ _ _ _ _ _ _ _ _ _ _ _ _ _ _ _ _ _ _ _ _ _ _ _ _ _ _ _ _ _ _ _ _ _ _ _ _ _ _ _ _ _ _ _ _ _ _ _ _ _ _ _ _ _ _ _ _ _ _ _ _ _ _ _ _ _ _ _ _ _ _ _ _ _ _ _ _ w _ _ (Below.refl _ _) C0 C1 hi hj hN HKn HKm ?_
    clear hsm
    rintro w3 t10 t11 t12 t13 t14 t15 t16 t17 t18 t19 t20 t21 t22 t23 t24 t25 t26 t27 t28 t29 t30 t31 t32 t33 t34 t35 t36 t37 t38 t39 t40 t41 B3
    have d0 := (B3.cell (show (⟨(ad.add (i * 6)).block, (ad.add (i * 6)).off + 5, none⟩ : Addr).block < w.heap.size by show (ad.add (i * 6)).block < _; rw [block_of_add]; exact had)).trans C0
    have d1 := (B3.cell (show (⟨(ad.add (j * 6)).block, (ad.add (j * 6)).off + 5, none⟩ : Addr).block < w.heap.size by show (ad.add (j * 6)).block < _; rw [block_of_add]; exact had)).trans C1
    go_wp2_with fail
    refine (H1.out _ B3).mono ?_
    rintro e' w4 ⟨rfl, hb4⟩
    have B4 : Below w.heap.size w w4 := bt B3 hb4
    clear hb4
    go_wp2_with fail
    refine (HKm.out _ B4).mono ?_
    rintro e' w5 ⟨rfl, hb5⟩
    have B5 : Below w.heap.size w w5 := bt B4 hb5
    clear hb5
    go_wp2
    go_ret
    exact ⟨by simp, B5⟩
  | false =>
    go_enter Tryd.func64, Tryd.ntmps64
    go_upto_region 1 with fail
    refine on_region ad N cl i j p q bn bm sm hsm _ _ _ _ _ _ _ _ _ _ _ _ _ _ _ _ _ _ _ _ _ _ _ _ _ _ _ _ _ _ _ _ _ _ _ _ _ _ _ _ _ _ _ _ _ _ _ _ _ _ _ _ _ _ _ _ _ _ _ _ _ _ _ _ _ _ _ _ _ _ _ _ _ _ _ _ _ _ _ _ _ _ _ _ _ _ _ _ _ _ _ _ _ _ _ _ _ _ _ _ _ _ _ _ _ _ _ _ _ _ _ _ _ _ _ _ _ _ _ _ _ _ _ _ _ _ _ _ _ _ _ _ _ _ _ _ _ _ _ _ _ _ _ _ _ _ w _ _ (Below.refl _ _) C0 C1 hi hj hN HKn HKm ?_
    clear hsm
    rintro w3 t10 t11 t12 t13 t14 t15 t16 t17 t18 t19 t20 t21 t22 t23 t24 t25 t26 t27 t28 t29 t30 t31 t32 t33 t34 t35 t36 t37 t38 t39 t40 t41 B3
    have d0 := (B3.cell (show (⟨(ad.add (i * 6)).block, (ad.add (i * 6)).off + 5, none⟩ : Addr).block < w.heap.size by show (ad.add (i * 6)).block < _; rw [block_of_add]; exact had)).trans C0
    have d1 := (B3.cell (show (⟨(ad.add (j * 6)).block, (ad.add (j * 6)).off + 5, none⟩ : Addr).block < w.heap.size by show (ad.add (j * 6)).block < _; rw [block_of_add]; exact had)).trans C1
    go_wp2_with fail
    refine (H1.out _ B3).mono ?_
    rintro e' w4 ⟨rfl, hb4⟩
    have B4 : Below w.heap.size w w4 := bt B3 hb4
    clear hb4
    go_wp2
    go_ret
    exact ⟨by simp, B4⟩
theorem on_3 (ad : Addr) (N cl i j p q : Nat) (bn bm sm x1 x2 : Bool) (hsm : sm = (decide (p ≠ 0) && decide (q = p) && bn && bm)) (w : World)
    (C0 : w.cell? ⟨(ad.add (i * 6)).block, (ad.add (i * 6)).off + 5, none⟩ = some (.int .i64 (p : Int))) (C1 : w.cell? ⟨(ad.add (j * 6)).block, (ad.add (j * 6)).off + 5, none⟩ = some (.int .i64 (q : Int))) (had : ad.block < w.heap.size) (hi : i < N) (hj : j < N) (_hp : p ≤ N) (_hq : q ≤ N) (hN : N ≤ 1048576)
    (HKn : (Hid (∀ w1 : World, Below w.heap.size w w1 → Calls Tryd.prog 85 #[.slice (some ad) N cl, .int .i64 ((i : Int) + 1)] w1 fun e' w' => e' = .returned (.bool bn) ∧ Below w1.heap.size w1 w'))) (HKm : (Hid (∀ w1 : World, Below w.heap.size w w1 → Calls Tryd.prog 85 #[.slice (some ad) N cl, .int .i64 ((j : Int) + 1)] w1 fun e' w' => e' = .returned (.bool bm) ∧ Below w1.heap.size w1 w')))
    (_H1 : (Hid (∀ w1 : World, Below w.heap.size w w1 → Calls Tryd.prog 86 #[.slice (some ad) N cl, .int .i64 ((i : Int) + 1), .int .i64 ((j : Int) + 1)] w1 fun e' w' => e' = .returned (.bool x1) ∧ Below w1.heap.size w1 w'))) (_H2 : (Hid (∀ w1 : World, Below w.heap.size w w1 → Calls Tryd.prog 86 #[.slice (some ad) N cl, .int .i64 ((j : Int) + 1), .int .i64 ((i : Int) + 1)] w1 fun e' w' => e' = .returned (.bool x2) ∧ Below w1.heap.size w1 w'))) :
    Calls Tryd.prog 64 #[.slice (some ad) N cl, .int .i64 ((i : Int) + 1), .int .i64 3, .int .i64 ((j : Int) + 1)] w fun e w' => e = .returned (.bool (decide (q = i + 1) && !bm)) ∧ Below w.heap.size w w' := by
  by_cases he : q = i + 1
  · have g : ((q : Int) == (i : Int) + 1) = true := by simpa using (by omega : (q : Int) = (i : Int) + 1)
    go_enter Tryd.func64, Tryd.ntmps64
    go_upto_region 1 with fail
    refine on_region ad N cl i j p q bn bm sm hsm _ _ _ _ _ _ _ _ _ _ _ _ _ _ _ _ _ _ _ _ _ _ _ _ _ _ _ _ _ _ _ _ _ _ _ _ _ _ _ _ _ _ _ _ _ _ _ _ _ _ _ _ _ _ _ _ _ _ _ _ _ _ _ _ _ _ _ _ _ _ _ _ _ _ _ _ _ _ _ _ _ _ _ _ _ _ _ _ _ _ _ _ _ _ _ _ _ _ _ _ _ _ _ _ _ _ _ _ _ _ _ _ _ _ _ _ _ _ _ _ _ _ _ _ _ _ _ _ _ _ _ _ _ _ _ _ _ _ _ _ _ _ _ _ _ _ w _ _ (Below.refl _ _) C0 C1 hi hj hN HKn HKm ?_
    clear hsm
    rintro w3 t10 t11 t12 t13 t14 t15 t16 t17 t18 t19 t20 t21 t22 t23 t24 t25 t26 t27 t28 t29 t30 t31 t32 t33 t34 t35 t36 t37 t38 t39 t40 t41 B3
    have d0 := (B3.cell (show (⟨(ad.add (i * 6)).block, (ad.add (i * 6)).off + 5, none⟩ : Addr).block < w.heap.size by show (ad.add (i * 6)).block < _; rw [block_of_add]; exact had)).trans C0
    have d1 := (B3.cell (show (⟨(ad.add (j * 6)).block, (ad.add (j * 6)).off + 5, none⟩ : Addr).block < w.heap.size by show (ad.add (j * 6)).block < _; rw [block_of_add]; exact had)).trans C1
    go_wp2_with fail
    refine (HKm.out _ B3).mono ?_
    rintro e' w4 ⟨rfl, hb4⟩
    have B4 : Below w.heap.size w w4 := bt B3 hb4
    clear hb4
    go_wp2
    go_ret
    exact ⟨by simp [he], B4⟩
  · have g : ((q : Int) == (i : Int) + 1) = false := by simpa using (by omega : ¬ (q : Int) = (i : Int) + 1)
    go_enter Tryd.func64, Tryd.ntmps64
    go_upto_region 1 with fail
    refine on_region ad N cl i j p q bn bm sm hsm _ _ _ _ _ _ _ _ _ _ _ _ _ _ _ _ _ _ _ _ _ _ _ _ _ _ _ _ _ _ _ _ _ _ _ _ _ _ _ _ _ _ _ _ _ _ _ _ _ _ _ _ _ _ _ _ _ _ _ _ _ _ _ _ _ _ _ _ _ _ _ _ _ _ _ _ _ _ _ _ _ _ _ _ _ _ _ _ _ _ _ _ _ _ _ _ _ _ _ _ _ _ _ _ _ _ _ _ _ _ _ _ _ _ _ _ _ _ _ _ _ _ _ _ _ _ _ _ _ _ _ _ _ _ _ _ _ _ _ _ _ _ _ _ _ _ w _ _ (Below.refl _ _) C0 C1 hi hj hN HKn HKm ?_
    clear hsm
    rintro w3 t10 t11 t12 t13 t14 t15 t16 t17 t18 t19 t20 t21 t22 t23 t24 t25 t26 t27 t28 t29 t30 t31 t32 t33 t34 t35 t36 t37 t38 t39 t40 t41 B3
    have d0 := (B3.cell (show (⟨(ad.add (i * 6)).block, (ad.add (i * 6)).off + 5, none⟩ : Addr).block < w.heap.size by show (ad.add (i * 6)).block < _; rw [block_of_add]; exact had)).trans C0
    have d1 := (B3.cell (show (⟨(ad.add (j * 6)).block, (ad.add (j * 6)).off + 5, none⟩ : Addr).block < w.heap.size by show (ad.add (j * 6)).block < _; rw [block_of_add]; exact had)).trans C1
    go_wp2
    go_ret
    exact ⟨by simp [he], B3⟩
theorem on_4 (ad : Addr) (N cl i j p q : Nat) (bn bm sm x1 x2 : Bool) (hsm : sm = (decide (p ≠ 0) && decide (q = p) && bn && bm)) (w : World)
    (C0 : w.cell? ⟨(ad.add (i * 6)).block, (ad.add (i * 6)).off + 5, none⟩ = some (.int .i64 (p : Int))) (C1 : w.cell? ⟨(ad.add (j * 6)).block, (ad.add (j * 6)).off + 5, none⟩ = some (.int .i64 (q : Int))) (had : ad.block < w.heap.size) (hi : i < N) (hj : j < N) (_hp : p ≤ N) (_hq : q ≤ N) (hN : N ≤ 1048576)
    (HKn : (Hid (∀ w1 : World, Below w.heap.size w w1 → Calls Tryd.prog 85 #[.slice (some ad) N cl, .int .i64 ((i : Int) + 1)] w1 fun e' w' => e' = .returned (.bool bn) ∧ Below w1.heap.size w1 w'))) (HKm : (Hid (∀ w1 : World, Below w.heap.size w w1 → Calls Tryd.prog 85 #[.slice (some ad) N cl, .int .i64 ((j : Int) + 1)] w1 fun e' w' => e' = .returned (.bool bm) ∧ Below w1.heap.size w1 w')))
    (_H1 : (Hid (∀ w1 : World, Below w.heap.size w w1 → Calls Tryd.prog 86 #[.slice (some ad) N cl, .int .i64 ((i : Int) + 1), .int .i64 ((j : Int) + 1)] w1 fun e' w' => e' = .returned (.bool x1) ∧ Below w1.heap.size w1 w'))) (_H2 : (Hid (∀ w1 : World, Below w.heap.size w w1 → Calls Tryd.prog 86 #[.slice (some ad) N cl, .int .i64 ((j : Int) + 1), .int .i64 ((i : Int) + 1)] w1 fun e' w' => e' = .returned (.bool x2) ∧ Below w1.heap.size w1 w'))) :
    Calls Tryd.prog 64 #[.slice (some ad) N cl, .int .i64 ((i : Int) + 1), .int .i64 4, .int .i64 ((j : Int) + 1)] w fun e w' => e = .returned (.bool (decide (j = i))) ∧ Below w.heap.size w w' := by
  by_cases he : j = i
  · have g : ((j : Int) == (i : Int)) = true := beq_iff_eq.2 (by omega)
    have g' : (j == i) = true := beq_iff_eq.2 he
    have g2 : ((j : Int) + 1 == (i : Int) + 1) = true := beq_iff_eq.2 (by omega)
    have HE := Lib.hid he
    clear he
    go_enter Tryd.func64, Tryd.ntmps64
    go_upto_region 1 with fail
    refine on_region ad N cl i j p q bn bm sm hsm _ _ _ _ _ _ _ _ _ _ _ _ _ _ _ _ _ _ _ _ _ _ _ _ _ _ _ _ _ _ _ _ _ _ _ _ _ _ _ _ _ _ _ _ _ _ _ _ _ _ _ _ _ _ _ _ _ _ _ _ _ _ _ _ _ _ _ _ _ _ _ _ _ _ _ _ _ _ _ _ _ _ _ _ _ _ _ _ _ _ _ _ _ _ _ _ _ _ _ _ _ _ _ _ _ _ _ _ _ _ _ _ _ _ _ _ _ _ _ _ _ _ _ _ _ _ _ _ _ _ _ _ _ _ _ _ _ _ _ _ _ _ _ _ _ _ w _ _ (Below.refl _ _) C0 C1 hi hj hN HKn HKm ?_
    clear hsm
    rintro w3 t10 t11 t12 t13 t14 t15 t16 t17 t18 t19 t20 t21 t22 t23 t24 t25 t26 t27 t28 t29 t30 t31 t32 t33 t34 t35 t36 t37 t38 t39 t40 t41 B3
    have d0 := (B3.cell (show (⟨(ad.add (i * 6)).block, (ad.add (i * 6)).off + 5, none⟩ : Addr).block < w.heap.size by show (ad.add (i * 6)).block < _; rw [block_of_add]; exact had)).trans C0
    have d1 := (B3.cell (show (⟨(ad.add (j * 6)).block, (ad.add (j * 6)).off + 5, none⟩ : Addr).block < w.heap.size by show (ad.add (j * 6)).block < _; rw [block_of_add]; exact had)).trans C1
    go_wp2
    go_ret
    exact ⟨by simp [HE.out], B3⟩
  · have g : ((j : Int) == (i : Int)) = false := beq_eq_false_iff_ne.2 (by omega)
    have g' : (j == i) = false := beq_eq_false_iff_ne.2 he
    have g2 : ((j : Int) + 1 == (i : Int) + 1) = false := beq_eq_false_iff_ne.2 (by omega)
    have HE := Lib.hid he
    clear he
    go_enter Tryd.func64, Tryd.ntmps64
    go_upto_region 1 with fail
    refine on_region ad N cl i j p q bn bm sm hsm _ _ _ _ _ _ _ _ _ _ _ _ _ _ _ _ _ _ _ _ _ _ _ _ _ _ _ _ _ _ _ _ _ _ _ _ _ _ _ _ _ _ _ _ _ _ _ _ _ _ _ _ _ _ _ _ _ _ _ _ _ _ _ _ _ _ _ _ _ _ _ _ _ _ _ _ _ _ _ _ _ _ _ _ _ _ _ _ _ _ _ _ _ _ _ _ _ _ _ _ _ _ _ _ _ _ _ _ _ _ _ _ _ _ _ _ _ _ _ _ _ _ _ _ _ _ _ _ _ _ _ _ _ _ _ _ _ _ _ _ _ _ _ _ _ _ w _ _ (Below.refl _ _) C0 C1 hi hj hN HKn HKm ?_
    clear hsm
    rintro w3 t10 t11 t12 t13 t14 t15 t16 t17 t18 t19 t20 t21 t22 t23 t24 t25 t26 t27 t28 t29 t30 t31 t32 t33 t34 t35 t36 t37 t38 t39 t40 t41 B3
    have d0 := (B3.cell (show (⟨(ad.add (i * 6)).block, (ad.add (i * 6)).off + 5, none⟩ : Addr).block < w.heap.size by show (ad.add (i * 6)).block < _; rw [block_of_add]; exact had)).trans C0
    have d1 := (B3.cell (show (⟨(ad.add (j * 6)).block, (ad.add (j * 6)).off + 5, none⟩ : Addr).block < w.heap.size by show (ad.add (j * 6)).block < _; rw [block_of_add]; exact had)).trans C1
    go_wp2
    go_ret
    exact ⟨by simp; have := HE.out; omega, B3⟩
theorem on_5 (ad : Addr) (N cl i j p q : Nat) (bn bm sm x1 x2 : Bool) (hsm : sm = (decide (p ≠ 0) && decide (q = p) && bn && bm)) (w : World)
    (C0 : w.cell? ⟨(ad.add (i * 6)).block, (ad.add (i * 6)).off + 5, none⟩ = some (.int .i64 (p : Int))) (C1 : w.cell? ⟨(ad.add (j * 6)).block, (ad.add (j * 6)).off + 5, none⟩ = some (.int .i64 (q : Int))) (had : ad.block < w.heap.size) (hi : i < N) (hj : j < N) (_hp : p ≤ N) (_hq : q ≤ N) (hN : N ≤ 1048576)
    (HKn : (Hid (∀ w1 : World, Below w.heap.size w w1 → Calls Tryd.prog 85 #[.slice (some ad) N cl, .int .i64 ((i : Int) + 1)] w1 fun e' w' => e' = .returned (.bool bn) ∧ Below w1.heap.size w1 w'))) (HKm : (Hid (∀ w1 : World, Below w.heap.size w w1 → Calls Tryd.prog 85 #[.slice (some ad) N cl, .int .i64 ((j : Int) + 1)] w1 fun e' w' => e' = .returned (.bool bm) ∧ Below w1.heap.size w1 w')))
    (H1 : (Hid (∀ w1 : World, Below w.heap.size w w1 → Calls Tryd.prog 86 #[.slice (some ad) N cl, .int .i64 ((i : Int) + 1), .int .i64 ((j : Int) + 1)] w1 fun e' w' => e' = .returned (.bool x1) ∧ Below w1.heap.size w1 w'))) (_H2 : (Hid (∀ w1 : World, Below w.heap.size w w1 → Calls Tryd.prog 86 #[.slice (some ad) N cl, .int .i64 ((j : Int) + 1), .int .i64 ((i : Int) + 1)] w1 fun e' w' => e' = .returned (.bool x2) ∧ Below w1.heap.size w1 w'))) :
    Calls Tryd.prog 64 #[.slice (some ad) N cl, .int .i64 ((i : Int) + 1), .int .i64 5, .int .i64 ((j : Int) + 1)] w fun e w' => e = .returned (.bool (decide (j = i) || (x1 && bm))) ∧ Below w.heap.size w w' := by
  by_cases he : j = i
  · have g : ((j : Int) == (i : Int)) = true := beq_iff_eq.2 (by omega)
    have g' : (j == i) = true := beq_iff_eq.2 he
    have g2 : ((j : Int) + 1 == (i : Int) + 1) = true := beq_iff_eq.2 (by omega)
    have HE := Lib.hid he
    clear he
    go_enter Tryd.func64, Tryd.ntmps64
    go_upto_region 1 with fail
    refine on_region ad N cl i j p q bn bm sm hsm _ _ _ _ _ _ _ _ _ _ _ _ _ _ _ _ _ _ _ _ _ _ _ _ _ _ _ _ _ _ _ _ _ _ _ _ _ _ _ _ _ _ _ _ _ _ _ _ _ _ _ _ _ _ _ _ _ _ _ _ _ _ _ _ _ _ _ _ _ _ _ _ _ _ _ _ _ _ _ _ _ _ _ _ _ _ _ _ _ _ _ _ _ _ _ _ _ _ _ _ _ _ _ _ _ _ _ _ _ _ _ _ _ _ _ _ _ _ _ _ _ _ _ _ _ _ _ _ _ _ _ _ _ _ _ _ _ _ _ _ _ _ _ _ _ _ w _ _ (Below.refl _ _) C0 C1 hi hj hN HKn HKm ?_
    clear hsm
    rintro w3 t10 t11 t12 t13 t14 t15 t16 t17 t18 t19 t20 t21 t22 t23 t24 t25 t26 t27 t28 t29 t30 t31 t32 t33 t34 t35 t36 t37 t38 t39 t40 t41 B3
    have d0 := (B3.cell (show (⟨(ad.add (i * 6)).block, (ad.add (i * 6)).off + 5, none⟩ : Addr).block < w.heap.size by show (ad.add (i * 6)).block < _; rw [block_of_add]; exact had)).trans C0
    have d1 := (B3.cell (show (⟨(ad.add (j * 6)).block, (ad.add (j * 6)).off + 5, none⟩ : Addr).block < w.heap.size by show (ad.add (j * 6)).block < _; rw [block_of_add]; exact had)).trans C1
    go_wp2
    go_ret
    exact ⟨by simp [HE.out], B3⟩
  · have g : ((j : Int) == (i : Int)) = false := beq_eq_false_iff_ne.2 (by omega)
    have g' : (j == i) = false := beq_eq_false_iff_ne.2 he
    have g2 : ((j : Int) + 1 == (i : Int) + 1) = false := beq_eq_false_iff_ne.2 (by omega)
    have HE := Lib.hid he
    clear he
    cases x1 with
    | true =>
      go_enter Tryd.func64, Tryd.ntmps64
      go_upto_region 1 with fail
      refine on_region ad N cl i j p q bn bm sm hsm _ _ _ _ _ _ _ _ _ _ _ _ _ _ _ _ _ _ _ _ _ _ _ _ _ _ _ _ _ _ _ _ _ _ _ _ _ _ _ _ _ _ _ _ _ _ _ _ _ _ _ _ _ _ _ _ _ _ _ _ _ _ _ _ _ _ _ _ _ _ _ _ _ _ _ _ _ _ _ _ _ _ _ _ _ _ _ _ _ _ _ _ _ _ _ _ _ _ _ _ _ _ _ _ _ _ _ _ _ _ _ _ _ _ _ _ _ _ _ _ _ _ _ _ _ _ _ _ _ _ _ _ _ _ _ _ _ _ _ _ _ _ _ _ _ _ w _ _ (Below.refl _ _) C0 C1 hi hj hN HKn HKm ?_
      clear hsm
      rintro w3 t10 t11 t12 t13 t14 t15 t16 t17 t18 t19 t20 t21 t22 t23 t24 t25 t26 t27 t28 t29 t30 t31 t32 t33 t34 t35 t36 t37 t38 t39 t40 t41 B3
      have d0 := (B3.cell (show (⟨(ad.add (i * 6)).block, (ad.add (i * 6)).off + 5, none⟩ : Addr).block < w.heap.size by show (ad.add (i * 6)).block < _; rw [block_of_add]; exact had)).trans C0
      have d1 := (B3.cell (show (⟨(ad.add (j * 6)).block, (ad.add (j * 6)).off + 5, none⟩ : Addr).block < w.heap.size by show (ad.add (j * 6)).block < _; rw [block_of_add]; exact had)).trans C1
      go_wp2_with fail
      refine (H1.out _ B3).mono ?_
      rintro e' w4 ⟨rfl, hb4⟩
      have B4 : Below w.heap.size w w4 := bt B3 hb4
      clear hb4
      go_wp2_with fail
      refine (HKm.out _ B4).mono ?_
      rintro e' w5 ⟨rfl, hb5⟩
      have B5 : Below w.heap.size w w5 := bt B4 hb5
      clear hb5
      go_wp2
      go_ret
      exact ⟨by simp [HE.out], B5⟩
    | false =>
      go_enter Tryd.func64, Tryd.ntmps64
      go_upto_region 1 with fail
      refine on_region ad N cl i j p q bn bm sm hsm _ _ _ _ _ _ _ _ _ _ _ _ _ _ _ _ _ _ _ _ _ _ _ _ _ _ _ _ _ _ _ _ _ _ _ _ _ _ _ _ _ _ _ _ _ _ _ _ _ _ _ _ _ _ _ _ _ _ _ _ _ _ _ _ _ _ _ _ _ _ _ _ _ _ _ _ _ _ _ _ _ _ _ _ _ _ _ _ _ _ _ _ _ _ _ _ _ _ _ _ _ _ _ _ _ _ _ _ _ _ _ _ _ _ _ _ _ _ _ _ _ _ _ _ _ _ _ _ _ _ _ _ _ _ _ _ _ _ _ _ _ _ _ _ _ _ w _ _ (Below.refl _ _) C0 C1 hi hj hN HKn HKm ?_
      clear hsm
      rintro w3 t10 t11 t12 t13 t14 t15 t16 t17 t18 t19 t20 t21 t22 t23 t24 t25 t26 t27 t28 t29 t30 t31 t32 t33 t34 t35 t36 t37 t38 t39 t40 t41 B3
      have d0 := (B3.cell (show (⟨(ad.add (i * 6)).block, (ad.add (i * 6)).off + 5, none⟩ : Addr).block < w.heap.size by show (ad.add (i * 6)).block < _; rw [block_of_add]; exact had)).trans C0
      have d1 := (B3.cell (show (⟨(ad.add (j * 6)).block, (ad.add (j * 6)).off + 5, none⟩ : Addr).block < w.heap.size by show (ad.add (j * 6)).block < _; rw [block_of_add]; exact had)).trans C1
      go_wp2_with fail
      refine (H1.out _ B3).mono ?_
      rintro e' w4 ⟨rfl, hb4⟩
      have B4 : Below w.heap.size w w4 := bt B3 hb4
      clear hb4
      go_wp2
      go_ret
      exact ⟨by simp [HE.out], B4⟩
theorem on_6 (ad : Addr) (N cl i j p q : Nat) (bn bm sm x1 x2 : Bool) (hsm : sm = (decide (p ≠ 0) && decide (q = p) && bn && bm)) (w : World)
    (C0 : w.cell? ⟨(ad.add (i * 6)).block, (ad.add (i * 6)).off + 5, none⟩ = some (.int .i64 (p : Int))) (C1 : w.cell? ⟨(ad.add (j * 6)).block, (ad.add (j * 6)).off + 5, none⟩ = some (.int .i64 (q : Int))) (had : ad.block < w.heap.size) (hi : i < N) (hj : j < N) (_hp : p ≤ N) (_hq : q ≤ N) (hN : N ≤ 1048576)
    (HKn : (Hid (∀ w1 : World, Below w.heap.size w w1 → Calls Tryd.prog 85 #[.slice (some ad) N cl, .int .i64 ((i : Int) + 1)] w1 fun e' w' => e' = .returned (.bool bn) ∧ Below w1.heap.size w1 w'))) (HKm : (Hid (∀ w1 : World, Below w.heap.size w w1 → Calls Tryd.prog 85 #[.slice (some ad) N cl, .int .i64 ((j : Int) + 1)] w1 fun e' w' => e' = .returned (.bool bm) ∧ Below w1.heap.size w1 w')))
    (_H1 : (Hid (∀ w1 : World, Below w.heap.size w w1 → Calls Tryd.prog 86 #[.slice (some ad) N cl, .int .i64 ((i : Int) + 1), .int .i64 ((j : Int) + 1)] w1 fun e' w' => e' = .returned (.bool x1) ∧ Below w1.heap.size w1 w'))) (_H2 : (Hid (∀ w1 : World, Below w.heap.size w w1 → Calls Tryd.prog 86 #[.slice (some ad) N cl, .int .i64 ((j : Int) + 1), .int .i64 ((i : Int) + 1)] w1 fun e' w' => e' = .returned (.bool x2) ∧ Below w1.heap.size w1 w'))) :
    Calls Tryd.prog 64 #[.slice (some ad) N cl, .int .i64 ((i : Int) + 1), .int .i64 6, .int .i64 ((j : Int) + 1)] w fun e w' => e = .returned (.bool (sm && decide (i < j))) ∧ Below w.heap.size w w' := by
  cases sm with
  | false =>
    go_enter Tryd.func64, Tryd.ntmps64
    go_upto_region 1 with fail
    refine on_region ad N cl i j p q bn bm false hsm _ _ _ _ _ _ _ _ _ _ _ _ _ _ _ _ _ _ _ _ _ _ _ _ _ _ _ _ _ _ _ _ _ _ _ _ _ _ _ _ _ _ _ _ _ _ _ _ _ _ _ _ _ _ _ _ _ _ _ _ _ _ _ _ _ _ _ _ _ _ _ _ _ _ _ _ _ _ _ _ _ _ _ _ _ _ _ _ _ _ _ _ _ _ _ _ _ _ _ _ _ _ _ _ _ _ _ _ _ _ _ _ _ _ _ _ _ _ _ _ _ _ _ _ _ _ _ _ _ _ _ _ _ _ _ _ _ _ _ _ _ _ _ _ _ _ w _ _ (Below.refl _ _) C0 C1 hi hj hN HKn HKm ?_
    clear hsm
    rintro w3 t10 t11 t12 t13 t14 t15 t16 t17 t18 t19 t20 t21 t22 t23 t24 t25 t26 t27 t28 t29 t30 t31 t32 t33 t34 t35 t36 t37 t38 t39 t40 t41 B3
    have d0 := (B3.cell (show (⟨(ad.add (i * 6)).block, (ad.add (i * 6)).off + 5, none⟩ : Addr).block < w.heap.size by show (ad.add (i * 6)).block < _; rw [block_of_add]; exact had)).trans C0
    have d1 := (B3.cell (show (⟨(ad.add (j * 6)).block, (ad.add (j * 6)).off + 5, none⟩ : Addr).block < w.heap.size by show (ad.add (j * 6)).block < _; rw [block_of_add]; exact had)).trans C1
    go_wp2
    go_ret
    exact ⟨by simp, B3⟩
  | true =>
    by_cases he : i < j
    · have g : decide ((i : Int) < (j : Int)) = true := by simp; omega
      have g' : decide (i < j) = true := by simp; omega
      have HE := Lib.hid he
      clear he
      go_enter Tryd.func64, Tryd.ntmps64
      go_upto_region 1 with fail
      refine on_region ad N cl i j p q bn bm true hsm _ _ _ _ _ _ _ _ _ _ _ _ _ _ _ _ _ _ _ _ _ _ _ _ _ _ _ _ _ _ _ _ _ _ _ _ _ _ _ _ _ _ _ _ _ _ _ _ _ _ _ _ _ _ _ _ _ _ _ _ _ _ _ _ _ _ _ _ _ _ _ _ _ _ _ _ _ _ _ _ _ _ _ _ _ _ _ _ _ _ _ _ _ _ _ _ _ _ _ _ _ _ _ _ _ _ _ _ _ _ _ _ _ _ _ _ _ _ _ _ _ _ _ _ _ _ _ _ _ _ _ _ _ _ _ _ _ _ _ _ _ _ _ _ _ _ w _ _ (Below.refl _ _) C0 C1 hi hj hN HKn HKm ?_
      clear hsm
      rintro w3 t10 t11 t12 t13 t14 t15 t16 t17 t18 t19 t20 t21 t22 t23 t24 t25 t26 t27 t28 t29 t30 t31 t32 t33 t34 t35 t36 t37 t38 t39 t40 t41 B3
      have d0 := (B3.cell (show (⟨(ad.add (i * 6)).block, (ad.add (i * 6)).off + 5, none⟩ : Addr).block < w.heap.size by show (ad.add (i * 6)).block < _; rw [block_of_add]; exact had)).trans C0
      have d1 := (B3.cell (show (⟨(ad.add (j * 6)).block, (ad.add (j * 6)).off + 5, none⟩ : Addr).block < w.heap.size by show (ad.add (j * 6)).block < _; rw [block_of_add]; exact had)).trans C1
      go_wp2
      go_ret
      exact ⟨by simp [HE.out], B3⟩
    · have g : decide ((i : Int) < (j : Int)) = false := by simp; omega
      have g' : decide (i < j) = false := by simp; omega
      have HE := Lib.hid he
      clear he
      go_enter Tryd.func64, Tryd.ntmps64
      go_upto_region 1 with fail
      refine on_region ad N cl i j p q bn bm true hsm _ _ _ _ _ _ _ _ _ _ _ _ _ _ _ _ _ _ _ _ _ _ _ _ _ _ _ _ _ _ _ _ _ _ _ _ _ _ _ _ _ _ _ _ _ _ _ _ _ _ _ _ _ _ _ _ _ _ _ _ _ _ _ _ _ _ _ _ _ _ _ _ _ _ _ _ _ _ _ _ _ _ _ _ _ _ _ _ _ _ _ _ _ _ _ _ _ _ _ _ _ _ _ _ _ _ _ _ _ _ _ _ _ _ _ _ _ _ _ _ _ _ _ _ _ _ _ _ _ _ _ _ _ _ _ _ _ _ _ _ _ _ _ _ _ _ w _ _ (Below.refl _ _) C0 C1 hi hj hN HKn HKm ?_
      clear hsm
      rintro w3 t10 t11 t12 t13 t14 t15 t16 t17 t18 t19 t20 t21 t22 t23 t24 t25 t26 t27 t28 t29 t30 t31 t32 t33 t34 t35 t36 t37 t38 t39 t40 t41 B3
      have d0 := (B3.cell (show (⟨(ad.add (i * 6)).block, (ad.add (i * 6)).off + 5, none⟩ : Addr).block < w.heap.size by show (ad.add (i * 6)).block < _; rw [block_of_add]; exact had)).trans C0
      have d1 := (B3.cell (show (⟨(ad.add (j * 6)).block, (ad.add (j * 6)).off + 5, none⟩ : Addr).block < w.heap.size by show (ad.add (j * 6)).block < _; rw [block_of_add]; exact had)).trans C1
      go_wp2
      go_ret
      exact ⟨by simp; have := HE.out; omega, B3⟩
theorem on_9 (ad : Addr) (N cl i j p q : Nat) (bn bm sm x1 x2 : Bool) (hsm : sm = (decide (p ≠ 0) && decide (q = p) && bn && bm)) (w : World)
    (C0 : w.cell? ⟨(ad.add (i * 6)).block, (ad.add (i * 6)).off + 5, none⟩ = some (.int .i64 (p : Int))) (C1 : w.cell? ⟨(ad.add (j * 6)).block, (ad.add (j * 6)).off + 5, none⟩ = some (.int .i64 (q : Int))) (had : ad.block < w.heap.size) (hi : i < N) (hj : j < N) (_hp : p ≤ N) (_hq : q ≤ N) (hN : N ≤ 1048576)
    (HKn : (Hid (∀ w1 : World, Below w.heap.size w w1 → Calls Tryd.prog 85 #[.slice (some ad) N cl, .int .i64 ((i : Int) + 1)] w1 fun e' w' => e' = .returned (.bool bn) ∧ Below w1.heap.size w1 w'))) (HKm : (Hid (∀ w1 : World, Below w.heap.size w w1 → Calls Tryd.prog 85 #[.slice (some ad) N cl, .int .i64 ((j : Int) + 1)] w1 fun e' w' => e' = .returned (.bool bm) ∧ Below w1.heap.size w1 w')))
    (_H1 : (Hid (∀ w1 : World, Below w.heap.size w w1 → Calls Tryd.prog 86 #[.slice (some ad) N cl, .int .i64 ((i : Int) + 1), .int .i64 ((j : Int) + 1)] w1 fun e' w' => e' = .returned (.bool x1) ∧ Below w1.heap.size w1 w'))) (_H2 : (Hid (∀ w1 : World, Below w.heap.size w w1 → Calls Tryd.prog 86 #[.slice (some ad) N cl, .int .i64 ((j : Int) + 1), .int .i64 ((i : Int) + 1)] w1 fun e' w' => e' = .returned (.bool x2) ∧ Below w1.heap.size w1 w'))) :
    Calls Tryd.prog 64 #[.slice (some ad) N cl, .int .i64 ((i : Int) + 1), .int .i64 9, .int .i64 ((j : Int) + 1)] w fun e w' => e = .returned (.bool (sm && decide (j < i))) ∧ Below w.heap.size w w' := by
  cases sm with
  | false =>
    go_enter Tryd.func64, Tryd.ntmps64
    go_upto_region 1 with fail
    refine on_region ad N cl i j p q bn bm false hsm _ _ _ _ _ _ _ _ _ _ _ _ _ _ _ _ _ _ _ _ _ _ _ _ _ _ _ _ _ _ _ _ _ _ _ _ _ _ _ _ _ _ _ _ _ _ _ _ _ _ _ _ _ _ _ _ _ _ _ _ _ _ _ _ _ _ _ _ _ _ _ _ _ _ _ _ _ _ _ _ _ _ _ _ _ _ _ _ _ _ _ _ _ _ _ _ _ _ _ _ _ _ _ _ _ _ _ _ _ _ _ _ _ _ _ _ _ _ _ _ _ _ _ _ _ _ _ _ _ _ _ _ _ _ _ _ _ _ _ _ _ _ _ _ _ _ w _ _ (Below.refl _ _) C0 C1 hi hj hN HKn HKm ?_
    clear hsm
    rintro w3 t10 t11 t12 t13 t14 t15 t16 t17 t18 t19 t20 t21 t22 t23 t24 t25 t26 t27 t28 t29 t30 t31 t32 t33 t34 t35 t36 t37 t38 t39 t40 t41 B3
    have d0 := (B3.cell (show (⟨(ad.add (i * 6)).block, (ad.add (i * 6)).off + 5, none⟩ : Addr).block < w.heap.size by show (ad.add (i * 6)).block < _; rw [block_of_add]; exact had)).trans C0
    have d1 := (B3.cell (show (⟨(ad.add (j * 6)).block, (ad.add (j * 6)).off + 5, none⟩ : Addr).block < w.heap.size by show (ad.add (j * 6)).block < _; rw [block_of_add]; exact had)).trans C1
    go_wp2
    go_ret
    exact ⟨by simp, B3⟩
  | true =>
    by_cases he : j < i
    · have g : decide ((j : Int) < (i : Int)) = true := by simp; omega
      have g' : decide (j < i) = true := by simp; omega
      have HE := Lib.hid he
      clear he
      go_enter Tryd.func64, Tryd.ntmps64
      go_upto_region 1 with fail
      refine on_region ad N cl i j p q bn bm true hsm _ _ _ _ _ _ _ _ _ _ _ _ _ _ _ _ _ _ _ _ _ _ _ _ _ _ _ _ _ _ _ _ _ _ _ _ _ _ _ _ _ _ _ _ _ _ _ _ _ _ _ _ _ _ _ _ _ _ _ _ _ _ _ _ _ _ _ _ _ _ _ _ _ _ _ _ _ _ _ _ _ _ _ _ _ _ _ _ _ _ _ _ _ _ _ _ _ _ _ _ _ _ _ _ _ _ _ _ _ _ _ _ _ _ _ _ _ _ _ _ _ _ _ _ _ _ _ _ _ _ _ _ _ _ _ _ _ _ _ _ _ _ _ _ _ _ w _ _ (Below.refl _ _) C0 C1 hi hj hN HKn HKm ?_
      clear hsm
      rintro w3 t10 t11 t12 t13 t14 t15 t16 t17 t18 t19 t20 t21 t22 t23 t24 t25 t26 t27 t28 t29 t30 t31 t32 t33 t34 t35 t36 t37 t38 t39 t40 t41 B3
      have d0 := (B3.cell (show (⟨(ad.add (i * 6)).block, (ad.add (i * 6)).off + 5, none⟩ : Addr).block < w.heap.size by show (ad.add (i * 6)).block < _; rw [block_of_add]; exact had)).trans C0
      have d1 := (B3.cell (show (⟨(ad.add (j * 6)).block, (ad.add (j * 6)).off + 5, none⟩ : Addr).block < w.heap.size by show (ad.add (j * 6)).block < _; rw [block_of_add]; exact had)).trans C1
      go_wp2
      go_ret
      exact ⟨by simp [HE.out], B3⟩
    · have g : decide ((j : Int) < (i : Int)) = false := by simp; omega
      have g' : decide (j < i) = false := by simp; omega
      have HE := Lib.hid he
      clear he
      go_enter Tryd.func64, Tryd.ntmps64
      go_upto_region 1 with fail
      refine on_region ad N cl i j p q bn bm true hsm _ _ _ _ _ _ _ _ _ _ _ _ _ _ _ _ _ _ _ _ _ _ _ _ _ _ _ _ _ _ _ _ _ _ _ _ _ _ _ _ _ _ _ _ _ _ _ _ _ _ _ _ _ _ _ _ _ _ _ _ _ _ _ _ _ _ _ _ _ _ _ _ _ _ _ _ _ _ _ _ _ _ _ _ _ _ _ _ _ _ _ _ _ _ _ _ _ _ _ _ _ _ _ _ _ _ _ _ _ _ _ _ _ _ _ _ _ _ _ _ _ _ _ _ _ _ _ _ _ _ _ _ _ _ _ _ _ _ _ _ _ _ _ _ _ _ w _ _ (Below.refl _ _) C0 C1 hi hj hN HKn HKm ?_
      clear hsm
      rintro w3 t10 t11 t12 t13 t14 t15 t16 t17 t18 t19 t20 t21 t22 t23 t24 t25 t26 t27 t28 t29 t30 t31 t32 t33 t34 t35 t36 t37 t38 t39 t40 t41 B3
      have d0 := (B3.cell (show (⟨(ad.add (i * 6)).block, (ad.add (i * 6)).off + 5, none⟩ : Addr).block < w.heap.size by show (ad.add (i * 6)).block < _; rw [block_of_add]; exact had)).trans C0
      have d1 := (B3.cell (show (⟨(ad.add (j * 6)).block, (ad.add (j * 6)).off + 5, none⟩ : Addr).block < w.heap.size by show (ad.add (j * 6)).block < _; rw [block_of_add]; exact had)).trans C1
      go_wp2
      go_ret
      exact ⟨by simp; have := HE.out; omega, B3⟩
theorem on_7 (ad : Addr) (N cl i j p q : Nat) (bn bm sm x1 x2 : Bool) (hsm : sm = (decide (p ≠ 0) && decide (q = p) && bn && bm)) (w : World)
    (C0 : w.cell? ⟨(ad.add (i * 6)).block, (ad.add (i * 6)).off + 5, none⟩ = some (.int .i64 (p : Int))) (C1 : w.cell? ⟨(ad.add (j * 6)).block, (ad.add (j * 6)).off + 5, none⟩ = some (.int .i64 (q : Int))) (had : ad.block < w.heap.size) (hi : i < N) (hj : j < N) (_hp : p ≤ N) (_hq : q ≤ N) (hN : N ≤ 1048576)
    (HKn : (Hid (∀ w1 : World, Below w.heap.size w w1 → Calls Tryd.prog 85 #[.slice (some ad) N cl, .int .i64 ((i : Int) + 1)] w1 fun e' w' => e' = .returned (.bool bn) ∧ Below w1.heap.size w1 w'))) (HKm : (Hid (∀ w1 : World, Below w.heap.size w w1 → Calls Tryd.prog 85 #[.slice (some ad) N cl, .int .i64 ((j : Int) + 1)] w1 fun e' w' => e' = .returned (.bool bm) ∧ Below w1.heap.size w1 w')))
    (_H1 : (Hid (∀ w1 : World, Below w.heap.size w w1 → Calls Tryd.prog 86 #[.slice (some ad) N cl, .int .i64 ((i : Int) + 1), .int .i64 ((j : Int) + 1)] w1 fun e' w' => e' = .returned (.bool x1) ∧ Below w1.heap.size w1 w'))) (_H2 : (Hid (∀ w1 : World, Below w.heap.size w w1 → Calls Tryd.prog 86 #[.slice (some ad) N cl, .int .i64 ((j : Int) + 1), .int .i64 ((i : Int) + 1)] w1 fun e' w' => e' = .returned (.bool x2) ∧ Below w1.heap.size w1 w'))) :
    Calls Tryd.prog 64 #[.slice (some ad) N cl, .int .i64 ((i : Int) + 1), .int .i64 7, .int .i64 ((j : Int) + 1)] w fun e w' => e = .returned (.bool (decide (p = j + 1))) ∧ Below w.heap.size w w' := by
  by_cases he : p = j + 1
  · have g : ((p : Int) == (j : Int) + 1) = true := by simpa using (by omega : (p : Int) = (j : Int) + 1)
    go_enter Tryd.func64, Tryd.ntmps64
    go_upto_region 1 with fail
    refine on_region ad N cl i j p q bn bm sm hsm _ _ _ _ _ _ _ _ _ _ _ _ _ _ _ _ _ _ _ _ _ _ _ _ _ _ _ _ _ _ _ _ _ _ _ _ _ _ _ _ _ _ _ _ _ _ _ _ _ _ _ _ _ _ _ _ _ _ _ _ _ _ _ _ _ _ _ _ _ _ _ _ _ _ _ _ _ _ _ _ _ _ _ _ _ _ _ _ _ _ _ _ _ _ _ _ _ _ _ _ _ _ _ _ _ _ _ _ _ _ _ _ _ _ _ _ _ _ _ _ _ _ _ _ _ _ _ _ _ _ _ _ _ _ _ _ _ _ _ _ _ _ _ _ _ _ w _ _ (Below.refl _ _) C0 C1 hi hj hN HKn HKm ?_
    clear hsm
    rintro w3 t10 t11 t12 t13 t14 t15 t16 t17 t18 t19 t20 t21 t22 t23 t24 t25 t26 t27 t28 t29 t30 t31 t32 t33 t34 t35 t36 t37 t38 t39 t40 t41 B3
    have d0 := (B3.cell (show (⟨(ad.add (i * 6)).block, (ad.add (i * 6)).off + 5, none⟩ : Addr).block < w.heap.size by show (ad.add (i * 6)).block < _; rw [block_of_add]; exact had)).trans C0
    have d1 := (B3.cell (show (⟨(ad.add (j * 6)).block, (ad.add (j * 6)).off + 5, none⟩ : Addr).block < w.heap.size by show (ad.add (j * 6)).block < _; rw [block_of_add]; exact had)).trans C1
    go_wp2
    go_ret
    exact ⟨by simp [he], B3⟩
  · have g : ((p : Int) == (j : Int) + 1) = false := by simpa using (by omega : ¬ (p : Int) = (j : Int) + 1)
    go_enter Tryd.func64, Tryd.ntmps64
    go_upto_region 1 with fail
    refine on_region ad N cl i j p q bn bm sm hsm _ _ _ _ _ _ _ _ _ _ _ _ _ _ _ _ _ _ _ _ _ _ _ _ _ _ _ _ _ _ _ _ _ _ _ _ _ _ _ _ _ _ _ _ _ _ _ _ _ _ _ _ _ _ _ _ _ _ _ _ _ _ _ _ _ _ _ _ _ _ _ _ _ _ _ _ _ _ _ _ _ _ _ _ _ _ _ _ _ _ _ _ _ _ _ _ _ _ _ _ _ _ _ _ _ _ _ _ _ _ _ _ _ _ _ _ _ _ _ _ _ _ _ _ _ _ _ _ _ _ _ _ _ _ _ _ _ _ _ _ _ _ _ _ _ _ w _ _ (Below.refl _ _) C0 C1 hi hj hN HKn HKm ?_
    clear hsm
    rintro w3 t10 t11 t12 t13 t14 t15 t16 t17 t18 t19 t20 t21 t22 t23 t24 t25 t26 t27 t28 t29 t30 t31 t32 t33 t34 t35 t36 t37 t38 t39 t40 t41 B3
    have d0 := (B3.cell (show (⟨(ad.add (i * 6)).block, (ad.add (i * 6)).off + 5, none⟩ : Addr).block < w.heap.size by show (ad.add (i * 6)).block < _; rw [block_of_add]; exact had)).trans C0
    have d1 := (B3.cell (show (⟨(ad.add (j * 6)).block, (ad.add (j * 6)).off + 5, none⟩ : Addr).block < w.heap.size by show (ad.add (j * 6)).block < _; rw [block_of_add]; exact had)).trans C1
    go_wp2
    go_ret
    exact ⟨by simp [he], B3⟩
theorem on_8 (ad : Addr) (N cl i j p q : Nat) (bn bm sm x1 x2 : Bool) (hsm : sm = (decide (p ≠ 0) && decide (q = p) && bn && bm)) (w : World)
    (C0 : w.cell? ⟨(ad.add (i * 6)).block, (ad.add (i * 6)).off + 5, none⟩ = some (.int .i64 (p : Int))) (C1 : w.cell? ⟨(ad.add (j * 6)).block, (ad.add (j * 6)).off + 5, none⟩ = some (.int .i64 (q : Int))) (had : ad.block < w.heap.size) (hi : i < N) (hj : j < N) (_hp : p ≤ N) (_hq : q ≤ N) (hN : N ≤ 1048576)
    (HKn : (Hid (∀ w1 : World, Below w.heap.size w w1 → Calls Tryd.prog 85 #[.slice (some ad) N cl, .int .i64 ((i : Int) + 1)] w1 fun e' w' => e' = .returned (.bool bn) ∧ Below w1.heap.size w1 w'))) (HKm : (Hid (∀ w1 : World, Below w.heap.size w w1 → Calls Tryd.prog 85 #[.slice (some ad) N cl, .int .i64 ((j : Int) + 1)] w1 fun e' w' => e' = .returned (.bool bm) ∧ Below w1.heap.size w1 w')))
    (_H1 : (Hid (∀ w1 : World, Below w.heap.size w w1 → Calls Tryd.prog 86 #[.slice (some ad) N cl, .int .i64 ((i : Int) + 1), .int .i64 ((j : Int) + 1)] w1 fun e' w' => e' = .returned (.bool x1) ∧ Below w1.heap.size w1 w'))) (H2 : (Hid (∀ w1 : World, Below w.heap.size w w1 → Calls Tryd.prog 86 #[.slice (some ad) N cl, .int .i64 ((j : Int) + 1), .int .i64 ((i : Int) + 1)] w1 fun e' w' => e' = .returned (.bool x2) ∧ Below w1.heap.size w1 w'))) :
    Calls Tryd.prog 64 #[.slice (some ad) N cl, .int .i64 ((i : Int) + 1), .int .i64 8, .int .i64 ((j : Int) + 1)] w fun e w' => e = .returned (.bool (x2)) ∧ Below w.heap.size w w' := by
  go_enter Tryd.func64, Tryd.ntmps64
  go_upto_region 1 with fail
  refine on_region ad N cl i j p q bn bm sm hsm _ _ _ _ _ _ _ _ _ _ _ _ _ _ _ _ _ _ _ _ _ _ _ _ _ _ _ _ _ _ _ _ _ _ _ _ _ _ _ _ _ _ _ _ _ _ _ _ _ _ _ _ _ _ _ _ _ _ _ _ _ _ _ _ _ _ _ _ _ _ _ _ _ _ _ _ _ _ _ _ _ _ _ _ _ _ _ _ _ _ _ _ _ _ _ _ _ _ _ _ _ _ _ _ _ _ _ _ _ _ _ _ _ _ _ _ _ _ _ _ _ _ _ _ _ _ _ _ _ _ _ _ _ _ _ _ _ _ _ _ _ _ _ _ _ _ w _ _ (Below.refl _ _) C0 C1 hi hj hN HKn HKm ?_
  clear hsm
  rintro w3 t10 t11 t12 t13 t14 t15 t16 t17 t18 t19 t20 t21 t22 t23 t24 t25 t26 t27 t28 t29 t30 t31 t32 t33 t34 t35 t36 t37 t38 t39 t40 t41 B3
  have d0 := (B3.cell (show (⟨(ad.add (i * 6)).block, (ad.add (i * 6)).off + 5, none⟩ : Addr).block < w.heap.size by show (ad.add (i * 6)).block < _; rw [block_of_add]; exact had)).trans C0
  have d1 := (B3.cell (show (⟨(ad.add (j * 6)).block, (ad.add (j * 6)).off + 5, none⟩ : Addr).block < w.heap.size by show (ad.add (j * 6)).block < _; rw [block_of_add]; exact had)).trans C1
  go_wp2_with fail
  refine (H2.out _ B3).mono ?_
  rintro e' w4 ⟨rfl, hb4⟩
  have B4 : Below w.heap.size w w4 := bt B3 hb4
  clear hb4
  go_wp2
  go_ret
  exact ⟨by simp, B4⟩
theorem on_10 (ad : Addr) (N cl i j p q : Nat) (bn bm sm x1 x2 : Bool) (hsm : sm = (decide (p ≠ 0) && decide (q = p) && bn && bm)) (w : World)
    (C0 : w.cell? ⟨(ad.add (i * 6)).block, (ad.add (i * 6)).off + 5, none⟩ = some (.int .i64 (p : Int))) (C1 : w.cell? ⟨(ad.add (j * 6)).block, (ad.add (j * 6)).off + 5, none⟩ = some (.int .i64 (q : Int))) (had : ad.block < w.heap.size) (hi : i < N) (hj : j < N) (_hp : p ≤ N) (_hq : q ≤ N) (hN : N ≤ 1048576)
    (HKn : (Hid (∀ w1 : World, Below w.heap.size w w1 → Calls Tryd.prog 85 #[.slice (some ad) N cl, .int .i64 ((i : Int) + 1)] w1 fun e' w' => e' = .returned (.bool bn) ∧ Below w1.heap.size w1 w'))) (HKm : (Hid (∀ w1 : World, Below w.heap.size w w1 → Calls Tryd.prog 85 #[.slice (some ad) N cl, .int .i64 ((j : Int) + 1)] w1 fun e' w' => e' = .returned (.bool bm) ∧ Below w1.heap.size w1 w')))
    (_H1 : (Hid (∀ w1 : World, Below w.heap.size w w1 → Calls Tryd.prog 86 #[.slice (some ad) N cl, .int .i64 ((i : Int) + 1), .int .i64 ((j : Int) + 1)] w1 fun e' w' => e' = .returned (.bool x1) ∧ Below w1.heap.size w1 w'))) (H2 : (Hid (∀ w1 : World, Below w.heap.size w w1 → Calls Tryd.prog 86 #[.slice (some ad) N cl, .int .i64 ((j : Int) + 1), .int .i64 ((i : Int) + 1)] w1 fun e' w' => e' = .returned (.bool x2) ∧ Below w1.heap.size w1 w'))) :
    Calls Tryd.prog 64 #[.slice (some ad) N cl, .int .i64 ((i : Int) + 1), .int .i64 10, .int .i64 ((j : Int) + 1)] w fun e w' => e = .returned (.bool (decide (j = i) || x2)) ∧ Below w.heap.size w w' := by
  by_cases he : j = i
  · have g : ((j : Int) == (i : Int)) = true := beq_iff_eq.2 (by omega)
    have g' : (j == i) = true := beq_iff_eq.2 he
    have g2 : ((j : Int) + 1 == (i : Int) + 1) = true := beq_iff_eq.2 (by omega)
    have HE := Lib.hid he
    clear he
    go_enter Tryd.func64, Tryd.ntmps64
    go_upto_region 1 with fail
    refine on_region ad N cl i j p q bn bm sm hsm _ _ _ _ _ _ _ _ _ _ _ _ _ _ _ _ _ _ _ _ _ _ _ _ _ _ _ _ _ _ _ _ _ _ _ _ _ _ _ _ _ _ _ _ _ _ _ _ _ _ _ _ _ _ _ _ _ _ _ _ _ _ _ _ _ _ _ _ _ _ _ _ _ _ _ _ _ _ _ _ _ _ _ _ _ _ _ _ _ _ _ _ _ _ _ _ _ _ _ _ _ _ _ _ _ _ _ _ _ _ _ _ _ _ _ _ _ _ _ _ _ _ _ _ _ _ _ _ _ _ _ _ _ _ _ _ _ _ _ _ _ _ _ _ _ _ w _ _ (Below.refl _ _) C0 C1 hi hj hN HKn HKm ?_
    clear hsm
    rintro w3 t10 t11 t12 t13 t14 t15 t16 t17 t18 t19 t20 t21 t22 t23 t24 t25 t26 t27 t28 t29 t30 t31 t32 t33 t34 t35 t36 t37 t38 t39 t40 t41 B3
    have d0 := (B3.cell (show (⟨(ad.add (i * 6)).block, (ad.add (i * 6)).off + 5, none⟩ : Addr).block < w.heap.size by show (ad.add (i * 6)).block < _; rw [block_of_add]; exact had)).trans C0
    have d1 := (B3.cell (show (⟨(ad.add (j * 6)).block, (ad.add (j * 6)).off + 5, none⟩ : Addr).block < w.heap.size by show (ad.add (j * 6)).block < _; rw [block_of_add]; exact had)).trans C1
    go_wp2
    go_ret
    exact ⟨by simp [HE.out], B3⟩
  · have g : ((j : Int) == (i : Int)) = false := beq_eq_false_iff_ne.2 (by omega)
    have g' : (j == i) = false := beq_eq_false_iff_ne.2 he
    have g2 : ((j : Int) + 1 == (i : Int) + 1) = false := beq_eq_false_iff_ne.2 (by omega)
    have HE := Lib.hid he
    clear he
    go_enter Tryd.func64, Tryd.ntmps64
    go_upto_region 1 with fail
    refine on_region ad N cl i j p q bn bm sm hsm _ _ _ _ _ _ _ _ _ _ _ _ _ _ _ _ _ _ _ _ _ _ _ _ _ _ _ _ _ _ _ _ _ _ _ _ _ _ _ _ _ _ _ _ _ _ _ _ _ _ _ _ _ _ _ _ _ _ _ _ _ _ _ _ _ _ _ _ _ _ _ _ _ _ _ _ _ _ _ _ _ _ _ _ _ _ _ _ _ _ _ _ _ _ _ _ _ _ _ _ _ _ _ _ _ _ _ _ _ _ _ _ _ _ _ _ _ _ _ _ _ _ _ _ _ _ _ _ _ _ _ _ _ _ _ _ _ _ _ _ _ _ _ _ _ _ w _ _ (Below.refl _ _) C0 C1 hi hj hN HKn HKm ?_
    clear hsm
    rintro w3 t10 t11 t12 t13 t14 t15 t16 t17 t18 t19 t20 t21 t22 t23 t24 t25 t26 t27 t28 t29 t30 t31 t32 t33 t34 t35 t36 t37 t38 t39 t40 t41 B3
    have d0 := (B3.cell (show (⟨(ad.add (i * 6)).block, (ad.add (i * 6)).off + 5, none⟩ : Addr).block < w.heap.size by show (ad.add (i * 6)).block < _; rw [block_of_add]; exact had)).trans C0
    have d1 := (B3.cell (show (⟨(ad.add (j * 6)).block, (ad.add (j * 6)).off + 5, none⟩ : Addr).block < w.heap.size by show (ad.add (j * 6)).block < _; rw [block_of_add]; exact had)).trans C1
    go_wp2_with fail
    refine (H2.out _ B3).mono ?_
    rintro e' w4 ⟨rfl, hb4⟩
    have B4 : Below w.heap.size w w4 := bt B3 hb4
    clear hb4
    go_wp2
    go_ret
    exact ⟨by simp [HE.out], B4⟩
theorem on_none (ad : Addr) (N cl i j p q : Nat) (bn bm sm x1 x2 : Bool) (hsm : sm = (decide (p ≠ 0) && decide (q = p) && bn && bm)) (w : World)
    (C0 : w.cell? ⟨(ad.add (i * 6)).block, (ad.add (i * 6)).off + 5, none⟩ = some (.int .i64 (p : Int))) (C1 : w.cell? ⟨(ad.add (j * 6)).block, (ad.add (j * 6)).off + 5, none⟩ = some (.int .i64 (q : Int))) (had : ad.block < w.heap.size) (hi : i < N) (hj : j < N) (_hp : p ≤ N) (_hq : q ≤ N) (hN : N ≤ 1048576)
    (HKn : (Hid (∀ w1 : World, Below w.heap.size w w1 → Calls Tryd.prog 85 #[.slice (some ad) N cl, .int .i64 ((i : Int) + 1)] w1 fun e' w' => e' = .returned (.bool bn) ∧ Below w1.heap.size w1 w'))) (HKm : (Hid (∀ w1 : World, Below w.heap.size w w1 → Calls Tryd.prog 85 #[.slice (some ad) N cl, .int .i64 ((j : Int) + 1)] w1 fun e' w' => e' = .returned (.bool bm) ∧ Below w1.heap.size w1 w')))
    (_H1 : (Hid (∀ w1 : World, Below w.heap.size w w1 → Calls Tryd.prog 86 #[.slice (some ad) N cl, .int .i64 ((i : Int) + 1), .int .i64 ((j : Int) + 1)] w1 fun e' w' => e' = .returned (.bool x1) ∧ Below w1.heap.size w1 w'))) (_H2 : (Hid (∀ w1 : World, Below w.heap.size w w1 → Calls Tryd.prog 86 #[.slice (some ad) N cl, .int .i64 ((j : Int) + 1), .int .i64 ((i : Int) + 1)] w1 fun e' w' => e' = .returned (.bool x2) ∧ Below w1.heap.size w1 w'))) (a : Int) (ha : ¬ (1 ≤ a ∧ a ≤ 10)) :
    Calls Tryd.prog 64 #[.slice (some ad) N cl, .int .i64 ((i : Int) + 1), .int .i64 a, .int .i64 ((j : Int) + 1)] w fun e w' => e = .returned (.bool (false)) ∧ Below w.heap.size w w' := by
  have ga1 : (a == 1) = false := by simpa using (by omega : ¬ a = 1)
  have gb1 : decide (a = 1) = false := by simpa using (by omega : ¬ a = 1)
  have ga2 : (a == 2) = false := by simpa using (by omega : ¬ a = 2)
  have gb2 : decide (a = 2) = false := by simpa using (by omega : ¬ a = 2)
  have ga3 : (a == 3) = false := by simpa using (by omega : ¬ a = 3)
  have gb3 : decide (a = 3) = false := by simpa using (by omega : ¬ a = 3)
  have ga4 : (a == 4) = false := by simpa using (by omega : ¬ a = 4)
  have gb4 : decide (a = 4) = false := by simpa using (by omega : ¬ a = 4)
  have ga5 : (a == 5) = false := by simpa using (by omega : ¬ a = 5)
  have gb5 : decide (a = 5) = false := by simpa using (by omega : ¬ a = 5)
  have ga6 : (a == 6) = false := by simpa using (by omega : ¬ a = 6)
  have gb6 : decide (a = 6) = false := by simpa using (by omega : ¬ a = 6)
  have ga7 : (a == 7) = false := by simpa using (by omega : ¬ a = 7)
  have gb7 : decide (a = 7) = false := by simpa using (by omega : ¬ a = 7)
  have ga8 : (a == 8) = false := by simpa using (by omega : ¬ a = 8)
  have gb8 : decide (a = 8) = false := by simpa using (by omega : ¬ a = 8)
  have ga9 : (a == 9) = false := by simpa using (by omega : ¬ a = 9)
  have gb9 : decide (a = 9) = false := by simpa using (by omega : ¬ a = 9)
  have ga10 : (a == 10) = false := by simpa using (by omega : ¬ a = 10)
  have gb10 : decide (a = 10) = false := by simpa using (by omega : ¬ a = 10)
  go_enter Tryd.func64, Tryd.ntmps64
  go_upto_region 1 with fail
  refine on_region ad N cl i j p q bn bm sm hsm _ _ _ _ _ _ _ _ _ _ _ _ _ _ _ _ _ _ _ _ _ _ _ _ _ _ _ _ _ _ _ _ _ _ _ _ _ _ _ _ _ _ _ _ _ _ _ _ _ _ _ _ _ _ _ _ _ _ _ _ _ _ _ _ _ _ _ _ _ _ _ _ _ _ _ _ _ _ _ _ _ _ _ _ _ _ _ _ _ _ _ _ _ _ _ _ _ _ _ _ _ _ _ _ _ _ _ _ _ _ _ _ _ _ _ _ _ _ _ _ _ _ _ _ _ _ _ _ _ _ _ _ _ _ _ _ _ _ _ _ _ _ _ _ _ _ w _ _ (Below.refl _ _) C0 C1 hi hj hN HKn HKm ?_
  clear hsm
  rintro w3 t10 t11 t12 t13 t14 t15 t16 t17 t18 t19 t20 t21 t22 t23 t24 t25 t26 t27 t28 t29 t30 t31 t32 t33 t34 t35 t36 t37 t38 t39 t40 t41 B3
  have d0 := (B3.cell (show (⟨(ad.add (i * 6)).block, (ad.add (i * 6)).off + 5, none⟩ : Addr).block < w.heap.size by show (ad.add (i * 6)).block < _; rw [block_of_add]; exact had)).trans C0
  have d1 := (B3.cell (show (⟨(ad.add (j * 6)).block, (ad.add (j * 6)).off + 5, none⟩ : Addr).block < w.heap.size by show (ad.add (j * 6)).block < _; rw [block_of_add]; exact had)).trans C1
  go_wp2
  go_ret
  exact ⟨by simp, B3⟩
end Go.Proofs.YtcmlfkoeajpliaaDoor
namespace Go.Proofs.YtcmlfkoeajpliaaDoor
open Go.RowKit Go.Lib
set_option maxRecDepth 100000
set_option maxHeartbeats 8000000
theorem onRef (Al : Option Addr) (cl : Nat) (L : List En) (n m : Nat) (a : Int) (w : World) (hA : ListAt w Al L) (hO : Ord L.length (kdN L) (prN L) (enN L)) (h1 : 1 ≤ n) (h2 : n ≤ L.length) (m1 : 1 ≤ m) (m2 : m ≤ L.length) (hL : L.length ≤ 1048576) :
    Calls Tryd.prog 64 #[.slice Al L.length cl, .int .i64 (n : Int), .int .i64 a, .int .i64 (m : Int)] w fun e w' => e = .returned (.bool (axP (kdN L) (prN L) (enN L) n a m)) ∧ Below w.heap.size w w' := by
  obtain ⟨ad, rfl, hl, _, c1⟩ := listAt_num hA h1 h2
  obtain ⟨ad', e', _, _, c2⟩ := listAt_num hA m1 m2
  cases e'
  obtain ⟨i, rfl⟩ : ∃ i, n = i + 1 := ⟨n - 1, by omega⟩
  obtain ⟨j, rfl⟩ : ∃ j, m = j + 1 := ⟨m - 1, by omega⟩
  rw [show i + 1 - 1 = i by omega] at c1
  rw [show j + 1 - 1 = j by omega] at c2
  have ei : ((i + 1 : Nat) : Int) = (i : Int) + 1 := by omega
  have ej : ((j + 1 : Nat) : Int) = (j : Int) + 1 := by omega
  have HKn := Lib.hid (fun (w1 : World) (hb : Below w.heap.size w w1) => kidRef (some ad) cl L (i + 1) w1 (hA.below hb) h1 h2 hL)
  have HKm := Lib.hid (fun (w1 : World) (hb : Below w.heap.size w w1) => kidRef (some ad) cl L (j + 1) w1 (hA.below hb) m1 m2 hL)
  have H1 := Lib.hid (fun (w1 : World) (hb : Below w.heap.size w w1) => aboveRef (some ad) cl L (i + 1) (j + 1) w1 (hA.below hb) hO h1 m1 m2 hL)
  have H2 := Lib.hid (fun (w1 : World) (hb : Below w.heap.size w w1) => aboveRef (some ad) cl L (j + 1) (i + 1) w1 (hA.below hb) hO m1 h1 h2 hL)
  rw [ei] at HKn H1 H2 ⊢
  rw [ej] at HKm H1 H2 ⊢
  have hp := pr_le hO (i + 1)
  have hq := pr_le hO (j + 1)
  have go : ∀ (r : Bool), r = axP (kdN L) (prN L) (enN L) (i + 1) a (j + 1) → Calls Tryd.prog 64 #[.slice (some ad) L.length cl, .int .i64 ((i : Int) + 1), .int .i64 a, .int .i64 ((j : Int) + 1)] w (fun e w' => e = .returned (.bool r) ∧ Below w.heap.size w w') → Calls Tryd.prog 64 #[.slice (some ad) L.length cl, .int .i64 ((i : Int) + 1), .int .i64 a, .int .i64 ((j : Int) + 1)] w (fun e w' => e = .returned (.bool (axP (kdN L) (prN L) (enN L) (i + 1) a (j + 1))) ∧ Below w.heap.size w w') := fun r hr h => by rw [← hr]; exact h
  by_cases e : 1 ≤ a ∧ a ≤ 10
  · have : a = 1 ∨ a = 2 ∨ a = 3 ∨ a = 4 ∨ a = 5 ∨ a = 6 ∨ a = 7 ∨ a = 8 ∨ a = 9 ∨ a = 10 := by omega
    rcases this with rfl | rfl | rfl | rfl | rfl | rfl | rfl | rfl | rfl | rfl
    · exact go _ (by simp [axP]) (on_1 ad _ cl i j _ _ _ _ _ _ _ rfl w c1 c2 hl (by omega) (by omega) hp hq hL HKn HKm H1 H2)
    · exact go _ (by simp [axP, Bool.and_assoc]) (on_2 ad _ cl i j _ _ _ _ _ _ _ rfl w c1 c2 hl (by omega) (by omega) hp hq hL HKn HKm H1 H2)
    · exact go _ (by simp [axP]) (on_3 ad _ cl i j _ _ _ _ _ _ _ rfl w c1 c2 hl (by omega) (by omega) hp hq hL HKn HKm H1 H2)
    · exact go _ (by simp [axP]) (on_4 ad _ cl i j _ _ _ _ _ _ _ rfl w c1 c2 hl (by omega) (by omega) hp hq hL HKn HKm H1 H2)
    · exact go _ (by simp [axP, Bool.and_assoc]) (on_5 ad _ cl i j _ _ _ _ _ _ _ rfl w c1 c2 hl (by omega) (by omega) hp hq hL HKn HKm H1 H2)
    · exact go _ (by simp [axP, Bool.and_assoc]) (on_6 ad _ cl i j _ _ _ _ _ _ _ rfl w c1 c2 hl (by omega) (by omega) hp hq hL HKn HKm H1 H2)
    · exact go _ (by simp [axP]) (on_7 ad _ cl i j _ _ _ _ _ _ _ rfl w c1 c2 hl (by omega) (by omega) hp hq hL HKn HKm H1 H2)
    · exact go _ (by simp [axP]) (on_8 ad _ cl i j _ _ _ _ _ _ _ rfl w c1 c2 hl (by omega) (by omega) hp hq hL HKn HKm H1 H2)
    · exact go _ (by simp [axP, Bool.and_assoc]) (on_9 ad _ cl i j _ _ _ _ _ _ _ rfl w c1 c2 hl (by omega) (by omega) hp hq hL HKn HKm H1 H2)
    · exact go _ (by simp [axP]) (on_10 ad _ cl i j _ _ _ _ _ _ _ rfl w c1 c2 hl (by omega) (by omega) hp hq hL HKn HKm H1 H2)
  · refine go false ?_ (on_none ad _ cl i j _ _ _ _ _ _ _ rfl w c1 c2 hl (by omega) (by omega) hp hq hL HKn HKm H1 H2 a e)
    unfold axP
    repeat rw [if_neg (by omega)]
end Go.Proofs.YtcmlfkoeajpliaaDoor
