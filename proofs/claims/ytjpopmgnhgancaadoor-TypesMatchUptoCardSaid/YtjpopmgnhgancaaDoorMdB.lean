/- The kind of an item, by the reference. No condition beyond what the theorems state. -/
import Derived.Test.YtjpopmgnhgancaaDoorKdP
import Derived.Test.YtjpopmgnhgancaaDoorHdA
import Derived.Test.YtjpopmgnhgancaaDoorKdJ
namespace Go.Proofs.YtjpopmgnhgancaaDoor
open Go.RowKit Go.Lib
set_option maxRecDepth 100000
set_option maxHeartbeats 8000000
def trK (x : Tr × Nat) : Int × List UInt8 := match x.1 with | .mk k n _ _ _ _ _ _ _ => (k, n)
def enK (e : En) : Int × List UInt8 := (e.k, e.n)
theorem layP_kinds : ∀ (ps : List (List UInt8 × List UInt8)) (b own : Nat) (q : Nat), (ps.map (fun p => (attrT p, q))).map trK = (layP ps b own).map enK
  | [], _, _, _ => rfl
  | p :: ps, b, own, q => by
    rw [List.map_cons, List.map_cons, layP, List.map_cons, layP_kinds ps (b + 1) own q]
    rfl
theorem nodes_kinds : ∀ (t : Tr) (b p b' p' : Nat), (t.nodes b p).map trK = (t.pl.lay b' p').map enK := by
  intro t
  induction t using Tr.ind with
  | h k n v A ac ps K kc ks ih =>
    intro b p b' p'
    have aux : ∀ (L : List Tr), (∀ t ∈ L, ∀ b p b' p' : Nat, (t.nodes b p).map trK = (t.pl.lay b' p').map enK) → ∀ b p b' p' : Nat, (nodesL L b p).map trK = (layL (plL L) b' p').map enK := by
      intro L
      induction L with
      | nil => intro _ b p b' p'; rw [nodesL, plL, layL]; rfl
      | cons a L ihL =>
        intro h b p b' p'
        rw [nodesL, plL, layL, List.map_append, List.map_append, h a (.head _) b p b' p', ihL (fun t ht => h t (.tail _ ht)) (b + a.pl.size) p (b' + a.pl.size) p']
    rw [Tr.nodes, Tr.pl, PT.lay, List.map_cons, List.map_cons, List.map_append, List.map_append, aux ks ih _ _ (b' + 1 + ps.length) (b' + 1), layP_kinds ps (b' + 1) (b' + 1)]
    rfl
theorem nodesL_kinds : ∀ (L : List Tr) (b p b' p' : Nat), (nodesL L b p).map trK = (layL (plL L) b' p').map enK
  | [], b, p, b', p' => by rw [nodesL, plL, layL]; rfl
  | a :: L, b, p, b', p' => by rw [nodesL, plL, layL, List.map_append, List.map_append, nodes_kinds a b p b' p', nodesL_kinds L (b + a.pl.size) p (b' + a.pl.size) p']
theorem rowN_at : ∀ (L : List (Tr × Nat)) (j : Nat) (x : Tr × Nat), L[j]? = some x → ∀ (o : Nat) (u : Value), (ndC x)[o]? = some u → (rowN L)[j * 6 + o]? = some u
  | [], j, x, h, _, _, _ => by simp at h
  | y :: L, 0, x, h, o, u, hu => by
    simp at h
    subst h
    unfold rowN
    rw [List.flatMap_cons, List.getElem?_append_left (by have := (List.getElem?_eq_some_iff.1 hu).1; omega)]
    simpa using hu
  | y :: L, j + 1, x, h, o, u, hu => by
    have ih := rowN_at L j x (by simpa using h) o u hu
    unfold rowN at ih ⊢
    rw [List.flatMap_cons, List.getElem?_append_right (by rw [ndC_len]; omega), ndC_len]
    rw [show (j + 1) * 6 + o - 6 = j * 6 + o by omega]
    exact ih
theorem rowN_len (L : List (Tr × Nat)) : (rowN L).length = L.length * 6 := by
  induction L with
  | nil => rfl
  | cons x L ih =>
    unfold rowN at ih ⊢
    rw [List.flatMap_cons, List.length_append, ih, ndC_len, List.length_cons]
    omega
/-- Tree: of a node of the list. -/
theorem tree_at (A : Option Addr) (n c : Nat) (L : List (Tr × Nat)) (P : Nat → Prop) (j : Nat) (k : Int) (nm v : List UInt8) (B : Option Addr) (bc : Nat) (ps : List (List UInt8 × List UInt8)) (K : Option Addr) (kc : Nat) (ks : List Tr) (q : Nat) (hj : L[j]? = some (.mk k nm v B bc ps K kc ks, q)) (hn : n = L.length) (hn1 : n ≤ 1048576) (w : World) (hR : RdP P w 6 A n (rowN L)) (hP : ∀ b, P b → b < w.heap.size) :
    Calls Tryd.prog 38 #[.slice A n c, .int .i64 ((j : Int) + 1)] w fun e w' => e = .returned (.agg #[.int .i64 k, .string (ba' nm), .string (ba' v), .slice B ps.length bc, .slice K ks.length kc]) ∧ Below w.heap.size w w' := by
  have hlt : j < n := by rw [hn]; exact (List.getElem?_eq_some_iff.1 hj).1
  obtain ⟨ad, rfl, hb, hc⟩ := hR.2 (by omega)
  have at_ : ∀ o u, (ndC (.mk k nm v B bc ps K kc ks, q))[o]? = some u → w.cell? (ad.add (j * 6 + o)) = some u := fun o u hu => hc _ u (rowN_at L j _ hj o u hu)
  have d0 : w.cell? (ad.add (j * 6)) = some (.int .i64 k) := at_ 0 _ rfl
  have d1 : w.cell? { block := (ad.add (j * 6)).block, off := (ad.add (j * 6)).off + 1 } = some (.string (ba' nm)) := by rw [add_off ad (j * 6) 1 (by omega)]; exact at_ 1 _ rfl
  have d2 : w.cell? { block := (ad.add (j * 6)).block, off := (ad.add (j * 6)).off + 2 } = some (.string (ba' v)) := by rw [add_off ad (j * 6) 2 (by omega)]; exact at_ 2 _ rfl
  have d3 : w.cell? { block := (ad.add (j * 6)).block, off := (ad.add (j * 6)).off + 3 } = some (.slice B ps.length bc) := by rw [add_off ad (j * 6) 3 (by omega)]; exact at_ 3 _ rfl
  have d4 : w.cell? { block := (ad.add (j * 6)).block, off := (ad.add (j * 6)).off + 4 } = some (.slice K ks.length kc) := by rw [add_off ad (j * 6) 4 (by omega)]; exact at_ 4 _ rfl
  have hbl : (ad.add (j * 6)).block < w.heap.size := by rw [block_of_add]; exact hP _ hb
  have g1 : decide ((j : Int) + 1 < 1) = false := by simp; omega
  have g2 : decide ((n : Int) < (j : Int) + 1) = false := by simp; omega
  have g2' : decide ((j : Int) + 1 > (n : Int)) = false := by simp; omega
  have g3 : (j : Int) + 1 - 1 = (j : Int) := by omega
  have g4 : wrap64 (j : Int) = (j : Int) := by unfold wrap64; omega
  obtain ⟨np, hnp⟩ : ∃ np, ps.length = np := ⟨_, rfl⟩
  obtain ⟨nk, hnk⟩ : ∃ nk, ks.length = nk := ⟨_, rfl⟩
  rw [hnp] at d3 ⊢
  rw [hnk] at d4 ⊢
  clear at_ hc hj hn hR hP hnp hnk hb
  go_enter Tryd.func38, Tryd.ntmps38
  go_wp2
  exact bodyPost_ret (v := .agg #[.int .i64 k, .string (ba' nm), .string (ba' v), .slice B np bc, .slice K nk kc]) (by simp [results, Tryd.results38, go_sem, *] <;> first | rfl | omega) rfl ⟨rfl, (by repeat (with_reducible (first | exact Below.refl _ _ | assumption | apply ba | apply bd | apply bdr | (refine bs ?_ (by first | assumption | (simp; done) | (simp; omega))) | (refine bt ?_ (by assumption)))))⟩
theorem tree_out (A : Option Addr) (n c : Nat) (m : Int) (h : m < 1 ∨ (n : Int) < m) (_hn1 : n ≤ 1048576) (w : World) :
    Calls Tryd.prog 38 #[.slice A n c, .int .i64 m] w fun e w' => e = .returned (.agg #[.int .i64 0, .string ⟨#[]⟩, .string ⟨#[]⟩, .slice none 0 0, .slice none 0 0]) ∧ Below w.heap.size w w' := by
  by_cases h1 : m < 1
  · have g1 : decide (m < 1) = true := by simpa using h1
    go_enter Tryd.func38, Tryd.ntmps38
    go_wp2
    exact bodyPost_ret (v := .agg #[.int .i64 0, .string ⟨#[]⟩, .string ⟨#[]⟩, .slice none 0 0, .slice none 0 0]) (by simp [results, Tryd.results38, go_sem, *] <;> first | rfl | omega) rfl ⟨rfl, (by repeat (with_reducible (first | exact Below.refl _ _ | assumption | apply ba | apply bd | apply bdr | (refine bs ?_ (by first | assumption | (simp; done) | (simp; omega))) | (refine bt ?_ (by assumption)))))⟩
  · have g1 : decide (m < 1) = false := by simpa using h1
    have g2 : decide ((n : Int) < m) = true := by simp; omega
    have g2' : decide (m > (n : Int)) = true := by simp; omega
    go_enter Tryd.func38, Tryd.ntmps38
    go_wp2
    exact bodyPost_ret (v := .agg #[.int .i64 0, .string ⟨#[]⟩, .string ⟨#[]⟩, .slice none 0 0, .slice none 0 0]) (by simp [results, Tryd.results38, go_sem, *] <;> first | rfl | omega) rfl ⟨rfl, (by repeat (with_reducible (first | exact Below.refl _ _ | assumption | apply ba | apply bd | apply bdr | (refine bs ?_ (by first | assumption | (simp; done) | (simp; omega))) | (refine bt ?_ (by assumption)))))⟩
end Go.Proofs.YtjpopmgnhgancaaDoor
namespace Go.Proofs.YtjpopmgnhgancaaDoor
open Go.RowKit Go.Lib
set_option maxRecDepth 100000
set_option maxHeartbeats 8000000
theorem kindR_zero (A : Option Addr) (n c : Nat) (k nn cc : Int) (s : ByteArray) (b : Bool) (w : World) :
    Calls Tryd.prog 15 #[.slice A n c, .agg #[.int .i64 0, .int .i64 k, .int .i64 nn, .int .i64 cc, .string s, .bool b]] w fun e w' => e = .returned (.agg #[.int .i64 k, .string ⟨#[]⟩, .int .i64 0]) ∧ Below w.heap.size w w' := by
  go_enter Tryd.func15, Tryd.ntmps15
  go_wp2
  exact bodyPost_ret (v := .agg #[.int .i64 k, .string ⟨#[]⟩, .int .i64 0]) (by simp [results, Tryd.results15, go_sem, *] <;> first | rfl | omega) rfl ⟨rfl, (by repeat (with_reducible (first | exact Below.refl _ _ | assumption | apply ba | apply bd | apply bdr | (refine bs ?_ (by first | assumption | (simp; done) | (simp; omega))) | (refine bt ?_ (by assumption)))))⟩
theorem kindR_out (A : Option Addr) (n c : Nat) (m k nn cc : Int) (s : ByteArray) (b : Bool) (hm : 0 < m) (hn : (n : Int) < m) (hn1 : n ≤ 1048576) (w : World) :
    Calls Tryd.prog 15 #[.slice A n c, .agg #[.int .i64 m, .int .i64 k, .int .i64 nn, .int .i64 cc, .string s, .bool b]] w fun e w' => e = .returned (.agg #[.int .i64 13, .string ⟨#[]⟩, .int .i64 0]) ∧ Below w.heap.size w w' := by
  have HT : Hid (∀ w1 : World, Calls Tryd.prog 38 #[.slice A n c, .int .i64 m] w1 fun e w' => e = .returned (.agg #[.int .i64 0, .string ⟨#[]⟩, .string ⟨#[]⟩, .slice none 0 0, .slice none 0 0]) ∧ Below w1.heap.size w1 w') := Lib.hid fun w1 => tree_out A n c m (.inr hn) hn1 w1
  have g1 : decide (m ≤ 0) = false := by simp; omega
  clear hn hn1 hm
  go_enter Tryd.func15, Tryd.ntmps15
  go_wp2_with fail
  refine (HT.out _).mono ?_
  rintro e w1 ⟨rfl, hb1⟩
  have B1 : Below w.heap.size w w1 := (by repeat (with_reducible (first | exact Below.refl _ _ | assumption | apply ba | apply bd | apply bdr | (refine bs ?_ (by first | assumption | (simp; done) | (simp; omega))) | (refine bt ?_ (by assumption)))))
  have hc1 := fun o => (bcell hb1).1 (w.heap.size + 1) o (by first | (simp; done) | (simp; omega))
  have hf1 := fun o => (bcell hb1).2 (w.heap.size + 1) o (by first | (simp; done) | (simp; omega))
  have zz1 : w.heap.size + 1 < w1.heap.size := zz hb1 (by first | (simp; done) | (simp; omega))
  clear hb1
  go_wp2
  exact bodyPost_ret (v := .agg #[.int .i64 13, .string ⟨#[]⟩, .int .i64 0]) (by simp [results, Tryd.results15, go_sem, *] <;> first | rfl | omega) rfl ⟨rfl, (by repeat (with_reducible (first | exact Below.refl _ _ | assumption | apply ba | apply bd | apply bdr | (refine bs ?_ (by first | assumption | (simp; done) | (simp; omega))) | (refine bt ?_ (by assumption)))))⟩
theorem kindR_in (A : Option Addr) (n c : Nat) (m k nn cc : Int) (s : ByteArray) (b : Bool) (q : Nat) (hq : 1 ≤ q ∧ q ≤ 5) (nm v : List UInt8) (B : Option Addr) (bc np : Nat) (K : Option Addr) (kc nk : Nat) (hm : 0 < m) (w : World)
    (HT : Hid (∀ w1, Below w.heap.size w w1 → Calls Tryd.prog 38 #[.slice A n c, .int .i64 m] w1 fun e w' => e = .returned (.agg #[.int .i64 (q : Nat), .string (ba' nm), .string (ba' v), .slice B np bc, .slice K nk kc]) ∧ Below w1.heap.size w1 w')) :
    Calls Tryd.prog 15 #[.slice A n c, .agg #[.int .i64 m, .int .i64 k, .int .i64 nn, .int .i64 cc, .string s, .bool b]] w fun e w' => e = .returned (.agg #[.int .i64 (ofNode q : Nat), .string (ba' nm), .int .i64 0]) ∧ Below w.heap.size w w' := by
  have g1 : decide (m ≤ 0) = false := by simp; omega
  clear hm
  rcases (by omega : q = 1 ∨ q = 2 ∨ q = 3 ∨ q = 4 ∨ q = 5) with rfl | rfl | rfl | rfl | rfl
  all_goals
    go_enter Tryd.func15, Tryd.ntmps15
    go_wp2_with fail
    refine (HT.out _ (by repeat (with_reducible (first | exact Below.refl _ _ | assumption | apply ba | apply bd | apply bdr | (refine bs ?_ (by first | assumption | (simp; done) | (simp; omega))) | (refine bt ?_ (by assumption)))))).mono ?_
    rintro e w1 ⟨rfl, hb1⟩
    have B1 : Below w.heap.size w w1 := (by repeat (with_reducible (first | exact Below.refl _ _ | assumption | apply ba | apply bd | apply bdr | (refine bs ?_ (by first | assumption | (simp; done) | (simp; omega))) | (refine bt ?_ (by assumption)))))
    have hc1 := fun o => (bcell hb1).1 (w.heap.size + 1) o (by first | (simp; done) | (simp; omega))
    have hf1 := fun o => (bcell hb1).2 (w.heap.size + 1) o (by first | (simp; done) | (simp; omega))
    have zz1 : w.heap.size + 1 < w1.heap.size := zz hb1 (by first | (simp; done) | (simp; omega))
    clear hb1
    go_wp2
    first
    | exact bodyPost_ret (v := .agg #[.int .i64 7, .string (ba' nm), .int .i64 0]) (by simp [results, Tryd.results15, go_sem, *] <;> first | rfl | omega) rfl ⟨rfl, (by repeat (with_reducible (first | exact Below.refl _ _ | assumption | apply ba | apply bd | apply bdr | (refine bs ?_ (by first | assumption | (simp; done) | (simp; omega))) | (refine bt ?_ (by assumption)))))⟩
    | exact bodyPost_ret (v := .agg #[.int .i64 8, .string (ba' nm), .int .i64 0]) (by simp [results, Tryd.results15, go_sem, *] <;> first | rfl | omega) rfl ⟨rfl, (by repeat (with_reducible (first | exact Below.refl _ _ | assumption | apply ba | apply bd | apply bdr | (refine bs ?_ (by first | assumption | (simp; done) | (simp; omega))) | (refine bt ?_ (by assumption)))))⟩
    | exact bodyPost_ret (v := .agg #[.int .i64 9, .string (ba' nm), .int .i64 0]) (by simp [results, Tryd.results15, go_sem, *] <;> first | rfl | omega) rfl ⟨rfl, (by repeat (with_reducible (first | exact Below.refl _ _ | assumption | apply ba | apply bd | apply bdr | (refine bs ?_ (by first | assumption | (simp; done) | (simp; omega))) | (refine bt ?_ (by assumption)))))⟩
    | exact bodyPost_ret (v := .agg #[.int .i64 10, .string (ba' nm), .int .i64 0]) (by simp [results, Tryd.results15, go_sem, *] <;> first | rfl | omega) rfl ⟨rfl, (by repeat (with_reducible (first | exact Below.refl _ _ | assumption | apply ba | apply bd | apply bdr | (refine bs ?_ (by first | assumption | (simp; done) | (simp; omega))) | (refine bt ?_ (by assumption)))))⟩
    | exact bodyPost_ret (v := .agg #[.int .i64 11, .string (ba' nm), .int .i64 0]) (by simp [results, Tryd.results15, go_sem, *] <;> first | rfl | omega) rfl ⟨rfl, (by repeat (with_reducible (first | exact Below.refl _ _ | assumption | apply ba | apply bd | apply bdr | (refine bs ?_ (by first | assumption | (simp; done) | (simp; omega))) | (refine bt ?_ (by assumption)))))⟩
theorem kindR_any (A : Option Addr) (n c : Nat) (N : List (Tr × Nat)) (L : List En) (P : Nat → Prop) (x : It) (hx : ItOk x) (hE : ∀ e ∈ L, EnOk e) (hNL : N.map trK = L.map enK) (hn : n = N.length) (hn1 : n ≤ 1048576) (w : World) (hR : RdP P w 6 A n (rowN N)) (hP : ∀ b, P b → b < w.heap.size) :
    Calls Tryd.prog 15 #[.slice A n c, .agg #[.int .i64 x.m, .int .i64 x.k, .int .i64 x.n, .int .i64 x.c, .string x.s, .bool x.b]] w fun e w' => e = .returned (.agg #[.int .i64 ((kindI L x).k.i : Nat), .string (ba' (kindI L x).k.n), .int .i64 ((kindI L x).o : Nat)]) ∧ Below w.heap.size w w' := by
  obtain ⟨m, k, nn, cc, s, b⟩ := x
  obtain ⟨hm, hk⟩ := hx
  simp only at hm hk
  have hNl : N.length = L.length := by have := congrArg List.length hNL; simpa using this
  unfold kindI
  by_cases h0 : m = 0
  · subst h0
    obtain ⟨h1, h2⟩ := hk.resolve_left (fun e => e rfl)
    obtain ⟨q, rfl⟩ : ∃ q : Nat, k = (q : Int) := ⟨k.toNat, by omega⟩
    have h := kindR_zero A n c (q : Int) nn cc s b w
    simp only [if_true, Int.toNat_natCast]
    exact h
  · simp only [h0, if_false]
    cases he : L[(m - 1).toNat]? with
    | none =>
      have hlen : L.length ≤ (m - 1).toNat := by simpa using he
      exact kindR_out A n c m k nn cc s b (by omega) (by omega) hn1 w
    | some e =>
      obtain ⟨h1, h2, _⟩ := hE e (List.mem_of_getElem? he)
      have hlt : (m - 1).toNat < N.length := by rw [hNl]; exact (List.getElem?_eq_some_iff.1 he).1
      obtain ⟨y, hy⟩ : ∃ y, N[(m - 1).toNat]? = some y := ⟨_, List.getElem?_eq_getElem hlt⟩
      have hyk : trK y = enK e := by
        have h3 := congrArg (fun l => l[(m - 1).toNat]?) hNL
        simp only [List.getElem?_map, hy, he, Option.map_some, Option.some.injEq] at h3
        exact h3
      obtain ⟨⟨yk, yn, yv, yB, ybc, yps, yK, ykc, yks⟩, yp⟩ := y
      obtain ⟨ek, en, ev, ep, ee⟩ := e
      simp only [trK, enK, Prod.mk.injEq] at hyk
      obtain ⟨rfl, rfl⟩ := hyk
      simp only at h1 h2
      obtain ⟨q, rfl⟩ : ∃ q : Nat, yk = (q : Int) := ⟨yk.toNat, by omega⟩
      have hmi : (((m - 1).toNat : Nat) : Int) + 1 = m := by omega
      have hT := fun (w1 : World) (hb1 : Below w.heap.size w w1) => tree_at A n c N P (m - 1).toNat q yn yv yB ybc yps yK ykc yks yp hy hn hn1 w1 (hR.below hP hb1) (fun b hb => Nat.lt_of_lt_of_le (hP b hb) hb1.size)
      rw [hmi] at hT
      exact kindR_in A n c m k nn cc s b q (by omega) yn yv yB ybc yps.length yK ykc yks.length (by omega) w (Lib.hid hT)
end Go.Proofs.YtjpopmgnhgancaaDoor
