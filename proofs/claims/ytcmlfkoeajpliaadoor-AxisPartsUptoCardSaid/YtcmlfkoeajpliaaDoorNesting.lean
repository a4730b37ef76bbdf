/- How nodes nest; what is told of 0; the root of a number. No condition beyond what the theorems state. -/
import Derived.Test.YtcmlfkoeajpliaaDoorTrees
import Derived.Test.YtcmlfkoeajpliaaDoorStrings
namespace Go.Proofs.YtcmlfkoeajpliaaDoor
open Go.RowKit Go.Lib
/-- The nodes of trees behind b nodes, all under p. -/
structure Nest (b p : Nat) (M : List En) : Prop where
  one : ∀ i x, M[i]? = some x → x.k ≠ 0 ∧ (x.p = p ∨ (b < x.p ∧ x.p ≤ b + i)) ∧ b + i + 1 ≤ x.e ∧ x.e ≤ b + M.length
  two : ∀ n m x y, n < m → M[n]? = some x → M[m]? = some y → (b + m + 1 ≤ x.e ↔ (b + n + 1 ≤ y.p ∧ y.p ≤ x.e)) ∧ (b + m + 1 ≤ x.e → y.e ≤ x.e)
theorem Nest.nil (b p : Nat) : Nest b p [] := ⟨fun i x h => by simp at h, fun n m x y _ h _ => by simp at h⟩
theorem Nest.app {b p : Nat} {M N : List En} (h : Nest b p M) (k : Nest (b + M.length) p N) (hp : p ≤ b) : Nest b p (M ++ N) := by
  refine ⟨fun i x hx => ?_, fun n m x y hnm hx hy => ?_⟩
  · by_cases hi : i < M.length
    · rw [List.getElem?_append_left hi] at hx
      obtain ⟨h1, h2, h3, h4⟩ := h.one i x hx
      rw [List.length_append]
      exact ⟨h1, h2, h3, by omega⟩
    · rw [List.getElem?_append_right (by omega)] at hx
      obtain ⟨h1, h2, h3, h4⟩ := k.one _ x hx
      rw [List.length_append]
      exact ⟨h1, by omega, by omega, by omega⟩
  · by_cases hi : m < M.length
    · rw [List.getElem?_append_left hi] at hy
      rw [List.getElem?_append_left (by omega)] at hx
      exact h.two n m x y hnm hx hy
    · rw [List.getElem?_append_right (by omega)] at hy
      by_cases hn : n < M.length
      · rw [List.getElem?_append_left hn] at hx
        obtain ⟨_, _, _, h4⟩ := h.one n x hx
        obtain ⟨_, k2, _, _⟩ := k.one _ y hy
        exact ⟨⟨fun _ => by omega, fun _ => by omega⟩, fun _ => by omega⟩
      · rw [List.getElem?_append_right (by omega)] at hx
        have := k.two (n - M.length) (m - M.length) x y (by omega) hx hy
        rw [show b + M.length + (m - M.length) = b + m by omega, show b + M.length + (n - M.length) = b + n by omega] at this
        exact this
theorem Nest.cons {b p : Nat} {M : List En} (h : Nest (b + 1) (b + 1) M) (k : Int) (n v : List UInt8) (e : Nat) (hk : k ≠ 0) (he : e = b + (1 + M.length)) : Nest b p (⟨k, n, v, p, e⟩ :: M) := by
  refine ⟨fun i x hx => ?_, fun i m x y hnm hx hy => ?_⟩
  · cases i with
    | zero =>
      simp at hx
      subst hx
      exact ⟨hk, .inl rfl, by show _ ≤ e; omega, by show e ≤ _; simp; omega⟩
    | succ i =>
      rw [List.getElem?_cons_succ] at hx
      obtain ⟨h1, h2, h3, h4⟩ := h.one i x hx
      rw [List.length_cons]
      exact ⟨h1, .inr (by omega), by omega, by omega⟩
  · cases m with
    | zero => omega
    | succ m =>
      rw [List.getElem?_cons_succ] at hy
      obtain ⟨_, k2, k3, k4⟩ := h.one m y hy
      have hm := (List.getElem?_eq_some_iff.1 hy).1
      cases i with
      | zero =>
        simp at hx
        subst hx
        exact ⟨⟨fun _ => ⟨by omega, by show _ ≤ e; omega⟩, fun _ => by show _ ≤ e; omega⟩, fun _ => by show _ ≤ e; omega⟩
      | succ i =>
        rw [List.getElem?_cons_succ] at hx
        have := h.two i m x y (by omega) hx hy
        rw [show b + (m + 1) + 1 = b + 1 + m + 1 by omega, show b + (i + 1) + 1 = b + 1 + i + 1 by omega]
        exact this
theorem nest_pairs : ∀ (ps : List (List UInt8 × List UInt8)) (b own : Nat), own ≤ b → Nest b own (layP ps b own)
  | [], b, own, _ => Nest.nil b own
  | p :: ps, b, own, h => by
    have h1 : Nest b own [⟨3, p.1, p.2, own, b + 1⟩] := Nest.cons (Nest.nil _ _) 3 p.1 p.2 (b + 1) (by decide) rfl
    exact h1.app (nest_pairs ps (b + 1) own (by omega)) h
theorem right_knot0 {k : Int} {n v : List UInt8} {ps : List (List UInt8 × List UInt8)} {e : Bool} (h : headR k n v ps e = true) : k ≠ 0 := by
  rintro rfl
  simp [headR] at h
theorem nest_lay : ∀ (t : PT) (d b p : Nat), t.right d = true → p ≤ b → Nest b p (t.lay b p) := by
  intro t
  induction t using PT.ind with
  | h k n v ps ks ih =>
    intro d b p hr hp
    rw [PT.right] at hr
    simp only [Bool.and_eq_true] at hr
    obtain ⟨⟨_, hh⟩, hk⟩ := hr
    have aux : ∀ (L : List PT), (∀ t ∈ L, ∀ d b p : Nat, t.right d = true → p ≤ b → Nest b p (t.lay b p)) → ∀ (d : Nat) (last : Int) (b p : Nat), rightL L d last = true → p ≤ b → Nest b p (layL L b p) := by
      intro L
      induction L with
      | nil => intro _ d last b p _ _; exact Nest.nil b p
      | cons t L ihL =>
        intro ht d last b p hr hp
        rw [rightL] at hr
        simp only [Bool.and_eq_true] at hr
        rw [layL]
        have h2 := ihL (fun u hu => ht u (.tail _ hu)) d _ (b + t.size) p hr.2 (by omega)
        exact (ht t (.head _) d b p hr.1.2 hp).app (by rw [lay_len]; exact h2) hp
    rw [PT.lay]
    have hks := aux ks ih (d + 1) 0 (b + 1 + ps.length) (b + 1) hk (by omega)
    have hps := nest_pairs ps (b + 1) (b + 1) (Nat.le_refl _)
    exact Nest.cons (hps.app (by rw [layP_len]; exact hks) (Nat.le_refl _)) k n v _ (right_knot0 hh) (by rw [List.length_append, layP_len, layL_len]; omega)
/-- A store's nodes. -/
theorem nest_more {L : List En} {t : PT} (h : Nest 0 0 L) (hr : t.right 0 = true) : Nest 0 0 (L ++ t.lay L.length 0) :=
  h.app (by rw [Nat.zero_add]; exact nest_lay t 0 L.length 0 hr (Nat.zero_le _)) (Nat.le_refl _)
/-- The parent of a number, and its end; of none 0. -/
def par (L : List En) (n : Nat) : Nat := ((L[n - 1]?).map En.p).getD 0
def fin (L : List En) (n : Nat) : Nat := ((L[n - 1]?).map En.e).getD 0
theorem par_lt {L : List En} (h : Nest 0 0 L) {n : Nat} (h1 : 1 ≤ n) (h2 : n ≤ L.length) : par L n < n := by
  have hx : L[n - 1]? = some (L[n - 1]'(by omega)) := List.getElem?_eq_getElem (by omega)
  obtain ⟨_, hp, _, _⟩ := h.one _ _ hx
  unfold par
  rw [hx]
  show (L[n - 1]'(by omega)).p < n
  omega
theorem fin_ge {L : List En} (h : Nest 0 0 L) {n : Nat} (h1 : 1 ≤ n) (h2 : n ≤ L.length) : n ≤ fin L n ∧ fin L n ≤ L.length := by
  have hx : L[n - 1]? = some (L[n - 1]'(by omega)) := List.getElem?_eq_getElem (by omega)
  obtain ⟨_, _, h3, h4⟩ := h.one _ _ hx
  unfold fin
  rw [hx]
  show n ≤ (L[n - 1]'(by omega)).e ∧ (L[n - 1]'(by omega)).e ≤ L.length
  omega
theorem fin_nest {L : List En} (h : Nest 0 0 L) {n m : Nat} (h1 : 1 ≤ n) (hnm : n < m) (h2 : m ≤ L.length) : (m ≤ fin L n ↔ (n ≤ par L m ∧ par L m ≤ fin L n)) ∧ (m ≤ fin L n → fin L m ≤ fin L n) := by
  have hx : L[n - 1]? = some (L[n - 1]'(by omega)) := List.getElem?_eq_getElem (by omega)
  have hy : L[m - 1]? = some (L[m - 1]'(by omega)) := List.getElem?_eq_getElem (by omega)
  have := h.two (n - 1) (m - 1) _ _ (by omega) hx hy
  unfold fin par
  rw [hx, hy]
  show (m ≤ (L[n - 1]'(by omega)).e ↔ (n ≤ (L[m - 1]'(by omega)).p ∧ (L[m - 1]'(by omega)).p ≤ (L[n - 1]'(by omega)).e)) ∧ (m ≤ (L[n - 1]'(by omega)).e → (L[m - 1]'(by omega)).e ≤ (L[n - 1]'(by omega)).e)
  rw [show 0 + (m - 1) + 1 = m by omega, show 0 + (n - 1) + 1 = n by omega] at this
  exact this
/-- The root of a number. -/
def rootF (L : List En) : Nat → Nat → Nat
  | 0, _ => 0
  | f + 1, n => if n = 0 then 0 else if par L n = 0 then n else rootF L f (par L n)
theorem rootF_enough {L : List En} (h : Nest 0 0 L) : ∀ (f g n : Nat), n ≤ L.length → n ≤ f → n ≤ g → rootF L f n = rootF L g n
  | 0, 0, n, _, _, _ => rfl
  | 0, g + 1, n, _, h1, _ => by
    obtain rfl : n = 0 := by omega
    simp [rootF]
  | f + 1, 0, n, _, _, h2 => by
    obtain rfl : n = 0 := by omega
    simp [rootF]
  | f + 1, g + 1, n, hn, h1, h2 => by
    rw [rootF, rootF]
    by_cases h0 : n = 0
    · rw [if_pos h0, if_pos h0]
    · rw [if_neg h0, if_neg h0]
      by_cases hp : par L n = 0
      · rw [if_pos hp, if_pos hp]
      · rw [if_neg hp, if_neg hp]
        have := par_lt h (n := n) (by omega) hn
        exact rootF_enough h f g _ (by omega) (by omega) (by omega)
def rootOf (L : List En) (n : Nat) : Nat := rootF L L.length n
theorem root_zero {L : List En} (_h : Nest 0 0 L) {n : Nat} (h1 : 1 ≤ n) (h2 : n ≤ L.length) (hp : par L n = 0) : rootOf L n = n := by
  unfold rootOf
  obtain ⟨f, hf⟩ : ∃ f, L.length = f + 1 := ⟨L.length - 1, by omega⟩
  rw [hf, rootF, if_neg (by omega), if_pos hp]
theorem root_up {L : List En} (h : Nest 0 0 L) {n : Nat} (h1 : 1 ≤ n) (h2 : n ≤ L.length) (hp : par L n ≠ 0) : rootOf L n = rootOf L (par L n) := by
  unfold rootOf
  have := par_lt h h1 h2
  obtain ⟨f, hf⟩ : ∃ f, L.length = f + 1 := ⟨L.length - 1, by omega⟩
  rw [hf, rootF, if_neg (by omega), if_neg hp, ← hf]
  exact rootF_enough h _ _ _ (by omega) (by omega) (by omega)
end Go.Proofs.YtcmlfkoeajpliaaDoor
namespace Go.Proofs.YtcmlfkoeajpliaaDoor
open Go.RowKit Go.Lib
set_option maxRecDepth 100000
set_option maxHeartbeats 8000000
theorem at_zero (sb : Nat) (w : World) :
    Calls Tryd.prog 58 #[.pointer (some ⟨sb, 0, none⟩), .int .i64 0] w fun e' w' => e' = .returned (.agg #[.int .i64 0, .string ⟨#[]⟩, .string ⟨#[]⟩, .int .i64 0, .int .i64 0]) ∧ Below w.heap.size w w' := by
  go_enter Tryd.func58, Tryd.ntmps58
  go_wp2
  exact bodyPost_ret (v := .agg #[.int .i64 0, .string ⟨#[]⟩, .string ⟨#[]⟩, .int .i64 0, .int .i64 0]) (by simp [results, Tryd.results58, go_sem, *]) rfl ⟨rfl, by repeat (with_reducible (first | exact Below.refl _ _ | assumption | apply ba | apply bd | apply bdr | (refine bs ?_ (by first | assumption | (simp; done) | (simp; omega))) | (refine bt ?_ (by assumption))))⟩
theorem kind_zero (sb : Nat) (w : World) :
    Calls Tryd.prog 32 #[.pointer (some ⟨sb, 0, none⟩), .int .i64 0] w fun e' w' => e' = .returned (.int .i64 0) ∧ Below w.heap.size w w' := by
  have HA := Lib.hid (fun (w1 : World) => at_zero sb w1)
  have hfld := fun (x0 x1 x2 x3 x4 : Value) (w : World) => (by kernel_rfl : (Instr.field 90 (.agg #[x0, x1, x2, x3, x4]) 0).run Tryd.prog w = .ok (x0) w)
  go_enter Tryd.func32, Tryd.ntmps32
  go_wp2_with (go_at_call 58; go_must (refine (HA.out _).mono ?_); rintro e w1 ⟨rfl, hb1⟩)
  go_ret
  exact ⟨rfl, by repeat (with_reducible (first | exact Below.refl _ _ | assumption | apply ba | apply bd | apply bdr | (refine bs ?_ (by first | assumption | (simp; done) | (simp; omega))) | (refine bt ?_ (by assumption))))⟩
theorem kind_of (sb lim : Nat) (A : Option Addr) (c : Nat) (L : List En) (n : Nat) (w : World) (hS : StoreAt w sb lim A c L) (hN : Nest 0 0 L) (hL : L.length ≤ 1048576) (h1 : 1 ≤ n) (h2 : n ≤ L.length) :
    ∃ k : Int, k ≠ 0 ∧ Calls Tryd.prog 32 #[.pointer (some ⟨sb, 0, none⟩), .int .i64 (n : Int)] w fun e' w' => e' = .returned (.int .i64 k) ∧ Below w.heap.size w w' := by
  have hx : L[n - 1]? = some (L[n - 1]'(by omega)) := List.getElem?_eq_getElem (by omega)
  refine ⟨(L[n - 1]'(by omega)).k, (hN.one _ _ hx).1, ?_⟩
  have := kind_in sb lim A c L (n - 1) _ _ _ _ _ w hS hx hL
  rwa [show ((n - 1 : Nat) : Int) + 1 = (n : Int) by omega] at this
theorem parent_of (sb lim : Nat) (A : Option Addr) (c : Nat) (L : List En) (n : Nat) (w : World) (hS : StoreAt w sb lim A c L) (hL : L.length ≤ 1048576) (h1 : 1 ≤ n) (h2 : n ≤ L.length) :
    Calls Tryd.prog 31 #[.pointer (some ⟨sb, 0, none⟩), .int .i64 (n : Int)] w fun e' w' => e' = .returned (.int .i64 (par L n : Int)) ∧ Below w.heap.size w w' := by
  have hx : L[n - 1]? = some (L[n - 1]'(by omega)) := List.getElem?_eq_getElem (by omega)
  have := parent_in sb lim A c L (n - 1) _ _ _ _ _ w hS hx hL
  rw [show ((n - 1 : Nat) : Int) + 1 = (n : Int) by omega] at this
  unfold par
  rw [hx]
  exact this
theorem end_of (sb lim : Nat) (A : Option Addr) (c : Nat) (L : List En) (n : Nat) (w : World) (hS : StoreAt w sb lim A c L) (hL : L.length ≤ 1048576) (h1 : 1 ≤ n) (h2 : n ≤ L.length) :
    Calls Tryd.prog 30 #[.pointer (some ⟨sb, 0, none⟩), .int .i64 (n : Int)] w fun e' w' => e' = .returned (.int .i64 (fin L n : Int)) ∧ Below w.heap.size w w' := by
  have hx : L[n - 1]? = some (L[n - 1]'(by omega)) := List.getElem?_eq_getElem (by omega)
  have := end_in sb lim A c L (n - 1) _ _ _ _ _ w hS hx hL
  rw [show ((n - 1 : Nat) : Int) + 1 = (n : Int) by omega] at this
  unfold fin
  rw [hx]
  exact this
theorem root_of (sb lim : Nat) (A : Option Addr) (c : Nat) (L : List En) (n : Nat) (w : World) (hS : StoreAt w sb lim A c L) (hN : Nest 0 0 L) (hL : L.length ≤ 1048576) (h1 : 1 ≤ n) (h2 : n ≤ L.length) :
    Calls Tryd.prog 29 #[.pointer (some ⟨sb, 0, none⟩), .int .i64 (n : Int)] w fun e' w' => e' = .returned (.int .i64 (rootOf L n : Int)) ∧ Below w.heap.size w w' := by
  have HK := Lib.hid (fun (w1 : World) (m : Nat) (hb1 : Below w.heap.size w w1) (h1 : 1 ≤ m) (h2 : m ≤ L.length) => kind_of sb lim A c L m w1 (hS.below hb1) hN hL h1 h2)
  have HP := Lib.hid (fun (w1 : World) (m : Nat) (hb1 : Below w.heap.size w w1) (h1 : 1 ≤ m) (h2 : m ≤ L.length) => parent_of sb lim A c L m w1 (hS.below hb1) hL h1 h2)
  have HU := Lib.hid (fun (m : Nat) (h1 : 1 ≤ m) (h2 : m ≤ L.length) => (⟨par_lt hN h1 h2, root_zero hN h1 h2, root_up hN h1 h2⟩ : par L m < m ∧ (par L m = 0 → rootOf L m = m) ∧ (par L m ≠ 0 → rootOf L m = rootOf L (par L m))))
  obtain ⟨r, hr⟩ : ∃ r, rootOf L n = r := ⟨_, rfl⟩
  rw [hr]
  have HR := Lib.hid hr
  clear hr hS hN
  go_enter Tryd.func29, Tryd.ntmps29
  go_wp2
  go_loopw [1, 5] (fun s1 s5 wx => ∃ (m q : Nat), s1 = .int .i64 m ∧ s5 = .int .i64 q ∧ m ≤ L.length ∧ Hid ((m = 0 → q = r) ∧ (m ≠ 0 → rootOf L m = r)) ∧ Below w.heap.size w wx) (fun s1 _ _ => (intOf s1).toNat)
  case atStart =>
    exact ⟨n, 0, rfl, rfl, h2, Lib.hid ⟨fun h => by omega, fun _ => HR.out⟩, by repeat (with_reducible (first | exact Below.refl _ _ | assumption | apply ba | apply bd | apply bdr | (refine bs ?_ (by first | assumption | (simp; done) | (simp; omega))) | (refine bt ?_ (by assumption))))⟩
  case round =>
    obtain ⟨m, q, rfl, rfl, hm, hrel, hBW⟩ := hrel
    by_cases h0 : m = 0
    · subst h0
      have hq := hrel.out.1 rfl
      subst hq
      clear hrel
      have HZ := Lib.hid (fun (w1 : World) => kind_zero sb w1)
      simp only [show ((0 : Nat) : Int) = 0 from rfl]
      go_wp2_with (go_at_call 32; go_must (refine (HZ.out _).mono ?_); rintro e w1 ⟨rfl, hb1⟩)
      go_ret
      exact ⟨rfl, by repeat (with_reducible (first | exact Below.refl _ _ | assumption | apply ba | apply bd | apply bdr | (refine bs ?_ (by first | assumption | (simp; done) | (simp; omega))) | (refine bt ?_ (by assumption))))⟩
    · have hrt := hrel.out.2 h0
      obtain ⟨k, hk, hkc⟩ := HK.out wr m hBW (by omega) hm
      have hu := HU.out m (by omega) hm
      have hpar := Lib.hid (fun w1 hb1 => HP.out w1 m hb1 (by omega) hm)
      obtain ⟨p, hp⟩ : ∃ p, par L m = p := ⟨_, rfl⟩
      rw [hp] at hpar hu
      have HKC := Lib.hid hkc
      have HN := Lib.hid (⟨fun h => (hu.2.1 h).symm.trans hrt, fun h => (hu.2.2 h).symm.trans hrt⟩ : (p = 0 → m = r) ∧ (p ≠ 0 → rootOf L p = r))
      have hlt := hu.1
      have gk : decide (k = 0) = false := by simpa using hk
      have gk2 : decide (¬ k = 0) = true := by simpa using hk
      clear hrel hrt hkc hu hp
      go_wp2_with (first
        | (go_at_call 32; go_must (refine HKC.out.mono ?_); rintro e w1 ⟨rfl, hb1⟩)
        | (go_at_call 31; go_must (refine (hpar.out _ (by repeat (with_reducible (first | exact Below.refl _ _ | assumption | apply ba | apply bd | apply bdr | (refine bs ?_ (by first | assumption | (simp; done) | (simp; omega))) | (refine bt ?_ (by assumption)))))).mono ?_); rintro e w2 ⟨rfl, hb2⟩))
      go_roundw
      case rel => exact ⟨p, m, rfl, rfl, by omega, HN, by repeat (with_reducible (first | exact Below.refl _ _ | assumption | apply ba | apply bd | apply bdr | (refine bs ?_ (by first | assumption | (simp; done) | (simp; omega))) | (refine bt ?_ (by assumption))))⟩
      case measure => simp [intOf]; omega
end Go.Proofs.YtcmlfkoeajpliaaDoor
