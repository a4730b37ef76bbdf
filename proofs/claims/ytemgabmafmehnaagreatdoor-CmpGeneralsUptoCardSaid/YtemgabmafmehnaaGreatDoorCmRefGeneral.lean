/- The reference compares lists. No condition beyond what the theorems state. -/
import Derived.Test.YtemgabmafmehnaaGreatDoorCmRefPairs
import Derived.Test.YtemgabmafmehnaaGreatDoorCmRefOrds
import Derived.Test.YtemgabmafmehnaaGreatDoorLwRow4
import Derived.Test.YtemgabmafmehnaaGreatDoorLwPairRows
namespace Go.Proofs.YtemgabmafmehnaaGreatDoor
open Go.Shelf Go.RowKit Go.Proofs.Wide Go.Proofs.Dig
set_option maxRecDepth 100000
set_option maxHeartbeats 32000000
theorem pair_parts (op : Int) (a b : AV) (ha : a.ok) (hb : b.ok) (h1 : 13 ≤ op) (h2 : op ≤ 18) : ∃ (k1 n1 c1 : Int) (s1 : ByteArray) (b1 : Bool) (e1 k3 n3 c3 : Int) (s3 : ByteArray) (b3 : Bool) (e3 r0 g0 : Int) (h0 : Bool),
    Hid (Gives 66 #[a.v, b.v] (.tuple #[.agg #[.int .i64 k1, .int .i64 n1, .int .i64 c1, .string s1, .bool b1], .int .i64 e1])) ∧ Hid (Gives 66 #[b.v, a.v] (.tuple #[.agg #[.int .i64 k3, .int .i64 n3, .int .i64 c3, .string s3, .bool b3], .int .i64 e3])) ∧
    ((e1 ≠ 0 ∧ pairZ op a b = (false, e1)) ∨ (e1 = 0 ∧ e3 ≠ 0 ∧ pairZ op a b = (false, e3)) ∨ (e1 = 0 ∧ e3 = 0 ∧ Hid (Gives 31 #[.agg #[.int .i64 k1, .int .i64 n1, .int .i64 c1, .string s1, .bool b1], .agg #[.int .i64 k3, .int .i64 n3, .int .i64 c3, .string s3, .bool b3]] (.tuple #[.int .i64 r0, .int .i64 g0])) ∧
      ((g0 ≠ 0 ∧ pairZ op a b = (false, g0)) ∨ (g0 = 0 ∧ Hid (Gives 34 #[.int .i64 (op - 13), .int .i64 r0] (.bool h0)) ∧ pairZ op a b = (h0, 0))))) := by
  have X := refBeside_av a b ha
  have Y := refBeside_av b a hb
  cases hx : besideZ a b with
  | error e =>
    have hn := beside_err hx
    obtain ⟨k3, n3, c3, s3, b3, e3, o⟩ := out_fields (besideZ b a)
    rw [hx] at X
    rw [o] at Y
    exact ⟨0, 0, 0, ⟨#[]⟩, false, e, k3, n3, c3, s3, b3, e3, 0, 0, false, X, Y, .inl ⟨hn, by unfold pairZ; rw [hx]⟩⟩
  | ok x =>
    have hxo := beside_ok ha hx
    obtain ⟨k1, n1, c1, s1, b1, ex⟩ := v_fields x
    rw [hx] at X
    have X' : Hid (Gives 66 #[a.v, b.v] (.tuple #[x.v, .int .i64 0])) := X
    rw [ex] at X'
    cases hy : besideZ b a with
    | error e =>
      have hn := beside_err hy
      rw [hy] at Y
      exact ⟨k1, n1, c1, s1, b1, 0, 0, 0, 0, ⟨#[]⟩, false, e, 0, 0, false, X', Y, .inr (.inl ⟨rfl, hn, by unfold pairZ; rw [hx]; show (match besideZ b a with | .error e => (false, e) | .ok y => valZ op x y) = _; rw [hy]⟩)⟩
    | ok y =>
      have hyo := beside_ok hb hy
      obtain ⟨k3, n3, c3, s3, b3, ey⟩ := v_fields y
      rw [hy] at Y
      have Y' : Hid (Gives 66 #[b.v, a.v] (.tuple #[y.v, .int .i64 0])) := Y
      rw [ey] at Y'
      have hp : pairZ op a b = valZ op x y := by unfold pairZ; rw [hx]; show (match besideZ b a with | .error e => (false, e) | .ok y => valZ op x y) = _; rw [hy]
      have O := refOrder_av x y hxo hyo
      rw [ex, ey] at O
      cases ho : orderZ x y with
      | none =>
        rw [ho] at O
        exact ⟨k1, n1, c1, s1, b1, 0, k3, n3, c3, s3, b3, 0, 0, 44, false, X', Y', .inr (.inr ⟨rfl, rfl, O, .inl ⟨by decide, by rw [hp]; unfold valZ; rw [if_neg (by omega), ho]⟩⟩)⟩
      | some r =>
        rw [ho] at O
        have hr := order_range x y hxo hyo r ho
        exact ⟨k1, n1, c1, s1, b1, 0, k3, n3, c3, s3, b3, 0, r, 0, holdsZ op r, X', Y', .inr (.inr ⟨rfl, rfl, O, .inr ⟨rfl, refHolds_gt op r h1 h2 hr, by rw [hp]; unfold valZ; rw [if_neg (by omega), ho]⟩⟩)⟩
theorem gen10_region (kq : Int) (n m ca cb i j p : Nat) (adA adB : Addr) (r u : R5) (k1 n1 c1 : Int) (s1 : ByteArray) (b1 : Bool) (_e1 k3 n3 c3 : Int) (s3 : ByteArray) (b3 : Bool) (e3 : Int) (x12 x13 x43 x44 x45 x46 x47 x48 x49 x50 x51 x52 x53 x54 cc3 cc4 cc5 cc6 cc7 cc14 cc15 cc16 cc17 cc18 cc19 cc20 cc21 cc22 cc23 cc24 cc25 cc26 cc27 cc28 cc29 cc30 cc31 cc32 cc33 cc34 cc35 cc36 cc37 cc38 cc39 cc40 cc41 cc42 cc55 cc56 cc57 cc58 cc59 cc60 cc61 cc62 cc63 cc64 cc65 cc66 cc67 cc68 cc69 : Value) (w wr W : World) (Q : Exit → Act → World → Prop) (dA0 : wr.cell? (adA.add (i * 5)) = some (.int .i64 r.k)) (dA1 : wr.cell? {block := (adA.add (i * 5)).block, off := (adA.add (i * 5)).off + 1} = some (.int .i64 r.n)) (dA2 : wr.cell? {block := (adA.add (i * 5)).block, off := (adA.add (i * 5)).off + 2} = some (.int .i64 r.c)) (dA3 : wr.cell? {block := (adA.add (i * 5)).block, off := (adA.add (i * 5)).off + 3} = some (.string (ba' r.l))) (dA4 : wr.cell? {block := (adA.add (i * 5)).block, off := (adA.add (i * 5)).off + 4} = some (.bool r.b)) (dB0 : wr.cell? (adB.add (j * 5)) = some (.int .i64 u.k)) (dB1 : wr.cell? {block := (adB.add (j * 5)).block, off := (adB.add (j * 5)).off + 1} = some (.int .i64 u.n)) (dB2 : wr.cell? {block := (adB.add (j * 5)).block, off := (adB.add (j * 5)).off + 2} = some (.int .i64 u.c)) (dB3 : wr.cell? {block := (adB.add (j * 5)).block, off := (adB.add (j * 5)).off + 3} = some (.string (ba' u.l))) (dB4 : wr.cell? {block := (adB.add (j * 5)).block, off := (adB.add (j * 5)).off + 4} = some (.bool u.b)) (lA : (adA.add (i * 5)).block < wr.heap.size) (lB : (adB.add (j * 5)).block < wr.heap.size) (m0 : W.cell? ⟨p, 0, none⟩ = some (.int .i64 k1)) (m1 : W.cell? ⟨p, 1, none⟩ = some (.int .i64 n1)) (m2 : W.cell? ⟨p, 2, none⟩ = some (.int .i64 c1)) (m3 : W.cell? ⟨p, 3, none⟩ = some (.string s1)) (m4 : W.cell? ⟨p, 4, none⟩ = some (.bool b1)) (zp : p < W.heap.size) (HBy : Below w.heap.size w wr) (HBW : Below w.heap.size w W) (HRW : Below wr.heap.size wr W) (_hl1 : decide ((i : Int) < (n : Int)) = true) (_hl2 : decide ((j : Int) < (m : Int)) = true) (hi : i < n) (hj : j < m) (HY : Hid (Gives 66 #[.agg #[.int .i64 u.k, .int .i64 u.n, .int .i64 u.c, .string (ba' u.l), .bool u.b], .agg #[.int .i64 r.k, .int .i64 r.n, .int .i64 r.c, .string (ba' r.l), .bool r.b]] (.tuple #[.agg #[.int .i64 k3, .int .i64 n3, .int .i64 c3, .string s3, .bool b3], .int .i64 e3])))
    (hQ : ∀ (w' : World) (pn : Nat) (y43 y44 y45 y46 y47 y48 y49 y50 y51 y52 y53 y54 : Value), w'.cell? ⟨pn, 0, none⟩ = some (.int .i64 k3) → w'.cell? ⟨pn, 1, none⟩ = some (.int .i64 n3) → w'.cell? ⟨pn, 2, none⟩ = some (.int .i64 c3) → w'.cell? ⟨pn, 3, none⟩ = some (.string s3) → w'.cell? ⟨pn, 4, none⟩ = some (.bool b3) → pn < w'.heap.size → w'.cell? ⟨p, 0, none⟩ = some (.int .i64 k1) → w'.cell? ⟨p, 1, none⟩ = some (.int .i64 n1) → w'.cell? ⟨p, 2, none⟩ = some (.int .i64 c1) → w'.cell? ⟨p, 3, none⟩ = some (.string s1) → w'.cell? ⟨p, 4, none⟩ = some (.bool b1) → p < w'.heap.size → Below w.heap.size w w' → Below wr.heap.size wr w' → Q .normal { tmps := #[.int .i64 kq, .slice (some adA) n ca, .slice (some adB) m cb, cc3, cc4, cc5, cc6, cc7, .int .i64 (i : Int), .int .i64 (j : Int), .pointer (some ⟨p, 0, none⟩), .int .i64 0, .pointer (some ⟨pn, 0, none⟩), .int .i64 e3, cc14, cc15, cc16, cc17, cc18, cc19, cc20, cc21, cc22, cc23, cc24, cc25, cc26, cc27, cc28, cc29, cc30, cc31, cc32, cc33, cc34, cc35, cc36, cc37, cc38, cc39, cc40, cc41, cc42, y43, y44, y45, y46, y47, y48, y49, y50, y51, y52, y53, y54, cc55, cc56, cc57, cc58, cc59, cc60, cc61, cc62, cc63, cc64, cc65, cc66, cc67, cc68, cc69], defers := [] } w') :
    Code.wp Tryz.prog ((Tryz.f37.body.bind (regionOf 10)).getD .skip) Q { tmps := #[.int .i64 kq, .slice (some adA) n ca, .slice (some adB) m cb, cc3, cc4, cc5, cc6, cc7, .int .i64 (i : Int), .int .i64 (j : Int), .pointer (some ⟨p, 0, none⟩), .int .i64 0, x12, x13, cc14, cc15, cc16, cc17, cc18, cc19, cc20, cc21, cc22, cc23, cc24, cc25, cc26, cc27, cc28, cc29, cc30, cc31, cc32, cc33, cc34, cc35, cc36, cc37, cc38, cc39, cc40, cc41, cc42, x43, x44, x45, x46, x47, x48, x49, x50, x51, x52, x53, x54, cc55, cc56, cc57, cc58, cc59, cc60, cc61, cc62, cc63, cc64, cc65, cc66, cc67, cc68, cc69], defers := [] } W := by
  have gnp : p ≠ W.heap.size := Nat.ne_of_lt zp
  have gmp : W.heap.size ≠ p := Ne.symm gnp
  have HQ := Lib.hid hQ
  clear hQ
  have yW := HBW.size
  have yR := HRW.size
  have yB := HBy.size
  conv => arg 2; whnf
  go_region_held3 (fun w' => w'.cell? (adA.add (i * 5)) = some (.int .i64 r.k) ∧ w'.cell? {block := (adA.add (i * 5)).block, off := (adA.add (i * 5)).off + 1} = some (.int .i64 r.n) ∧ w'.cell? {block := (adA.add (i * 5)).block, off := (adA.add (i * 5)).off + 2} = some (.int .i64 r.c) ∧ w'.cell? {block := (adA.add (i * 5)).block, off := (adA.add (i * 5)).off + 3} = some (.string (ba' r.l)) ∧ w'.cell? {block := (adA.add (i * 5)).block, off := (adA.add (i * 5)).off + 4} = some (.bool r.b) ∧ w'.cell? (adB.add (j * 5)) = some (.int .i64 u.k) ∧ w'.cell? {block := (adB.add (j * 5)).block, off := (adB.add (j * 5)).off + 1} = some (.int .i64 u.n) ∧ w'.cell? {block := (adB.add (j * 5)).block, off := (adB.add (j * 5)).off + 2} = some (.int .i64 u.c) ∧ w'.cell? {block := (adB.add (j * 5)).block, off := (adB.add (j * 5)).off + 3} = some (.string (ba' u.l)) ∧ w'.cell? {block := (adB.add (j * 5)).block, off := (adB.add (j * 5)).off + 4} = some (.bool u.b) ∧ w'.cell? ⟨p, 0, none⟩ = some (.int .i64 k1) ∧ w'.cell? ⟨p, 1, none⟩ = some (.int .i64 n1) ∧ w'.cell? ⟨p, 2, none⟩ = some (.int .i64 c1) ∧ w'.cell? ⟨p, 3, none⟩ = some (.string s1) ∧ w'.cell? ⟨p, 4, none⟩ = some (.bool b1) ∧ p < w'.heap.size ∧ Below w.heap.size w w' ∧ Below wr.heap.size wr w')
    (refine (fun hR : Below wr.heap.size wr _ => ⟨(hR.cell (p := (adA.add (i * 5))) lA).trans dA0, (hR.cell (p := {block := (adA.add (i * 5)).block, off := (adA.add (i * 5)).off + 1}) lA).trans dA1, (hR.cell (p := {block := (adA.add (i * 5)).block, off := (adA.add (i * 5)).off + 2}) lA).trans dA2, (hR.cell (p := {block := (adA.add (i * 5)).block, off := (adA.add (i * 5)).off + 3}) lA).trans dA3, (hR.cell (p := {block := (adA.add (i * 5)).block, off := (adA.add (i * 5)).off + 4}) lA).trans dA4, (hR.cell (p := (adB.add (j * 5))) lB).trans dB0, (hR.cell (p := {block := (adB.add (j * 5)).block, off := (adB.add (j * 5)).off + 1}) lB).trans dB1, (hR.cell (p := {block := (adB.add (j * 5)).block, off := (adB.add (j * 5)).off + 2}) lB).trans dB2, (hR.cell (p := {block := (adB.add (j * 5)).block, off := (adB.add (j * 5)).off + 3}) lB).trans dB3, (hR.cell (p := {block := (adB.add (j * 5)).block, off := (adB.add (j * 5)).off + 4}) lB).trans dB4, ?_, ?_, ?_, ?_, ?_, ?_, ?_, hR⟩) ?_ <;> first | (with_reducible assumption) | (go_keep; done) | (simp; omega) | exact zz (by assumption) (by simp) | exact zz (by assumption) (by assumption) | repeat (with_reducible (first | exact Below.refl _ _ | assumption | apply ba | apply bd | apply bdr | (refine bs ?_ (by first | assumption | (simp; done) | (simp; omega))) | (refine bt ?_ (by assumption)))))
    (first
      | (go_at_call 66; refine (HY.out.call _).mono ?_; rintro e w10 ⟨rfl, hb10⟩; have R10 : Below wr.heap.size wr w10 := (by repeat (with_reducible (first | exact Below.refl _ _ | assumption | apply ba | apply bd | apply bdr | (refine bs ?_ (by first | assumption | (simp; done) | (simp; omega))) | (refine bt ?_ (by assumption))))); have B10 : Below w.heap.size w w10 := (by repeat (with_reducible (first | exact Below.refl _ _ | assumption | apply ba | apply bd | apply bdr | (refine bs ?_ (by first | assumption | (simp; done) | (simp; omega))) | (refine bt ?_ (by assumption))))); have y10 := B10.size; have hc10_0 := fun o => (bcell hb10).1 (p) o (by first | (simp; done) | assumption | (simp; omega)); have z10_0 : p < w10.heap.size := zz hb10 (by first | (simp; done) | assumption | (simp; omega)); have gn10_0 : p ≠ w10.heap.size := Nat.ne_of_lt z10_0; have gm10_0 : w10.heap.size ≠ p := Ne.symm gn10_0; (try (have gc10_0 := fun o => (bcell hb10).1 (W.heap.size) o (by first | (simp; done) | assumption | (simp; omega)))); (try (have gf10_0 := fun o => (bcell hb10).2 (W.heap.size) o (by first | (simp; done) | assumption | (simp; omega)))); (try (have gz10_0 : W.heap.size < w10.heap.size := zz hb10 (by first | (simp; done) | assumption | (simp; omega))))))
  all_goals (refine HQ.out _ _ _ _ _ _ _ _ _ _ _ _ _ _ (by first | (go_simp; done) | (simp [go_sem, *]; done)) (by first | (go_simp; done) | (simp [go_sem, *]; done)) (by first | (go_simp; done) | (simp [go_sem, *]; done)) (by first | (go_simp; done) | (simp [go_sem, *]; done)) (by first | (go_simp; done) | (simp [go_sem, *]; done)) (by first | (with_reducible assumption) | (simp; done) | (simp; omega) | omega) (by first | (with_reducible assumption) | (go_simp; done) | (simp; omega) | omega) (by first | (with_reducible assumption) | (go_simp; done) | (simp; omega) | omega) (by first | (with_reducible assumption) | (go_simp; done) | (simp; omega) | omega) (by first | (with_reducible assumption) | (go_simp; done) | (simp; omega) | omega) (by first | (with_reducible assumption) | (go_simp; done) | (simp; omega) | omega) (by first | (with_reducible assumption) | (go_simp; done) | (simp; omega) | omega) (by repeat (with_reducible (first | exact Below.refl _ _ | assumption | apply ba | apply bd | apply bdr | (refine bs ?_ (by first | assumption | (simp; done) | (simp; omega))) | (refine bt ?_ (by assumption))))) (by repeat (with_reducible (first | exact Below.refl _ _ | assumption | apply ba | apply bd | apply bdr | (refine bs ?_ (by first | assumption | (simp; done) | (simp; omega))) | (refine bt ?_ (by assumption))))))
theorem refGen_core (op : Int) (A B : Option Addr) (n m ca cb : Nat) (Lx Ly : List R5) (xs ys : List AV) (rb : Bool) (re : Int) (w : World) (h1 : 13 ≤ op) (h2 : op ≤ 18) (hn : Lx.length = n) (hm : Ly.length = m) (hxn : xs.length = n) (hym : ys.length = m) (hn6 : n ≤ 1048576) (hm6 : m ≤ 1048576)
    (hra : Reads w w.heap.size 5 A n (rowR Lx)) (hrb : Reads w w.heap.size 5 B m (rowR Ly)) (ax : ∀ (i : Nat) (r : R5), Lx[i]? = some r → ∃ a, xs[i]? = some a ∧ r.v = a.v) (ay : ∀ (i : Nat) (r : R5), Ly[i]? = some r → ∃ a, ys[i]? = some a ∧ r.v = a.v) (oa : ∀ a ∈ xs, a.ok) (ob : ∀ b ∈ ys, b.ok) (hr : goZ op ys xs = (rb, re)) :
    Calls Tryz.prog 37 #[.int .i64 (op - 13), .slice A n ca, .slice B m cb] w fun e w' => e = .returned (.tuple #[.bool rb, .int .i64 re]) ∧ Below w.heap.size w w' := by
  have HA := Lib.hid hra; have HB := Lib.hid hrb; have HN := Lib.hid hn; have HM := Lib.hid hm; have HXN := Lib.hid hxn; have HYM := Lib.hid hym; have AX := Lib.hid ax; have AY := Lib.hid ay; have OA := Lib.hid oa; have OB := Lib.hid ob; have HR := Lib.hid hr
  have HOP := Lib.hid (And.intro h1 h2)
  obtain ⟨kq, hkq⟩ : ∃ kq, op - 13 = kq := ⟨_, rfl⟩
  have HKQ := Lib.hid hkq
  rw [hkq]
  clear hra hrb hn hm hxn hym ax ay oa ob hr h1 h2 hkq
  go_enter Tryz.func37, Tryz.ntmps37
  go_wp2
  go_loopw [8] (fun s8 wx => ∃ i : Nat, s8 = .int .i64 i ∧ i ≤ n ∧ Hid (goZ op ys xs = goZ op ys (xs.drop i)) ∧ Below w.heap.size w wx) (fun s8 _ => n - (intOf s8).toNat)
  case atStart => exact ⟨0, rfl, Nat.zero_le _, Lib.hid (by rw [List.drop_zero]), Below.refl _ _⟩
  case round =>
    obtain ⟨i, rfl, hi, hgo, hBW⟩ := hrel
    by_cases hlt : i < n
    · have hiL : i < Lx.length := by rw [HN.out]; exact hlt
      obtain ⟨r, hr⟩ : ∃ r, Lx[i]? = some r := ⟨_, List.getElem?_eq_getElem hiL⟩
      obtain ⟨a, hae, ea⟩ := AX.out i r hr
      have HOK := Lib.hid (OA.out a (List.mem_of_getElem? hae))
      obtain ⟨adA, rfl, hblkA, hcellA⟩ := HA.out.2 (by omega)
      have hdr : xs.drop i = a :: xs.drop (i + 1) := by
        have hia := (List.getElem?_eq_some_iff.1 hae).1
        rw [List.drop_eq_getElem_cons hia]
        rw [List.getElem?_eq_getElem hia] at hae
        injection hae with hae
        rw [hae]
      have HGO := Lib.hid (hgo.out.trans (by rw [hdr]))
      have HRR := Lib.hid hr; have HEA := Lib.hid ea
      have HCA := Lib.hid (And.intro hblkA hcellA)
      have hl1 : decide ((i : Int) < (n : Int)) = true := by first | (simp; done) | (simp; omega)
      clear hr hae ea hiL hdr hgo hcellA hblkA
      go_wp2
      go_loopw [9] (fun s9 wy => ∃ j : Nat, s9 = .int .i64 j ∧ j ≤ m ∧ Hid (rowZ op a ys = rowZ op a (ys.drop j)) ∧ Below w.heap.size w wy) (fun s9 _ => m - (intOf s9).toNat)
      case atStart => exact ⟨0, rfl, Nat.zero_le _, Lib.hid (by rw [List.drop_zero]), by repeat (with_reducible (first | exact Below.refl _ _ | assumption | apply ba | apply bd | apply bdr | (refine bs ?_ (by first | assumption | (simp; done) | (simp; omega))) | (refine bt ?_ (by assumption))))⟩
      case round =>
        obtain ⟨j, rfl, hj, hrow, hBy⟩ := hrel
        by_cases hlt2 : j < m
        · have hjL : j < Ly.length := by rw [HM.out]; exact hlt2
          obtain ⟨u, hu⟩ : ∃ u, Ly[j]? = some u := ⟨_, List.getElem?_eq_getElem hjL⟩
          obtain ⟨b, hbe, eb⟩ := AY.out j u hu
          have hbok := OB.out b (List.mem_of_getElem? hbe)
          obtain ⟨adB, rfl, hblkB, hcellB⟩ := HB.out.2 (by omega)
          obtain ⟨hblkA, hcellA⟩ := HCA.out
          have hr := HRR.out
          have hdr : ys.drop j = b :: ys.drop (j + 1) := by
            have hjb := (List.getElem?_eq_some_iff.1 hbe).1
            rw [List.drop_eq_getElem_cons hjb]
            rw [List.getElem?_eq_getElem hjb] at hbe
            injection hbe with hbe
            rw [hbe]
          have cc0 : w.cell? (adA.add (i * 5 + 0)) = some (.int .i64 r.k) := hcellA _ _ (rowR_at Lx i r 0 _ hr rfl (by decide))
          have cc1 : w.cell? (adA.add (i * 5 + 1)) = some (.int .i64 r.n) := hcellA _ _ (rowR_at Lx i r 1 _ hr rfl (by decide))
          have cc2 : w.cell? (adA.add (i * 5 + 2)) = some (.int .i64 r.c) := hcellA _ _ (rowR_at Lx i r 2 _ hr rfl (by decide))
          have cc3 : w.cell? (adA.add (i * 5 + 3)) = some (.string (ba' r.l)) := hcellA _ _ (rowR_at Lx i r 3 _ hr rfl (by decide))
          have cc4 : w.cell? (adA.add (i * 5 + 4)) = some (.bool r.b) := hcellA _ _ (rowR_at Lx i r 4 _ hr rfl (by decide))
          have dA0 : wr.cell? (adA.add (i * 5)) = some (.int .i64 r.k) := (hBy.cell (by rw [block_of_add]; exact hblkA)).trans cc0
          have dA1 : wr.cell? {block := (adA.add (i * 5)).block, off := (adA.add (i * 5)).off + 1} = some (.int .i64 r.n) := by rw [add_off _ _ _ (by decide)]; exact (hBy.cell (by rw [block_of_add]; exact hblkA)).trans cc1
          have dA2 : wr.cell? {block := (adA.add (i * 5)).block, off := (adA.add (i * 5)).off + 2} = some (.int .i64 r.c) := by rw [add_off _ _ _ (by decide)]; exact (hBy.cell (by rw [block_of_add]; exact hblkA)).trans cc2
          have dA3 : wr.cell? {block := (adA.add (i * 5)).block, off := (adA.add (i * 5)).off + 3} = some (.string (ba' r.l)) := by rw [add_off _ _ _ (by decide)]; exact (hBy.cell (by rw [block_of_add]; exact hblkA)).trans cc3
          have dA4 : wr.cell? {block := (adA.add (i * 5)).block, off := (adA.add (i * 5)).off + 4} = some (.bool r.b) := by rw [add_off _ _ _ (by decide)]; exact (hBy.cell (by rw [block_of_add]; exact hblkA)).trans cc4
          have lA : (adA.add (i * 5)).block < wr.heap.size := by rw [block_of_add]; exact Nat.lt_of_lt_of_le hblkA hBy.size
          clear cc0 cc1 cc2 cc3 cc4
          have cc0 : w.cell? (adB.add (j * 5 + 0)) = some (.int .i64 u.k) := hcellB _ _ (rowR_at Ly j u 0 _ hu rfl (by decide))
          have cc1 : w.cell? (adB.add (j * 5 + 1)) = some (.int .i64 u.n) := hcellB _ _ (rowR_at Ly j u 1 _ hu rfl (by decide))
          have cc2 : w.cell? (adB.add (j * 5 + 2)) = some (.int .i64 u.c) := hcellB _ _ (rowR_at Ly j u 2 _ hu rfl (by decide))
          have cc3 : w.cell? (adB.add (j * 5 + 3)) = some (.string (ba' u.l)) := hcellB _ _ (rowR_at Ly j u 3 _ hu rfl (by decide))
          have cc4 : w.cell? (adB.add (j * 5 + 4)) = some (.bool u.b) := hcellB _ _ (rowR_at Ly j u 4 _ hu rfl (by decide))
          have dB0 : wr.cell? (adB.add (j * 5)) = some (.int .i64 u.k) := (hBy.cell (by rw [block_of_add]; exact hblkB)).trans cc0
          have dB1 : wr.cell? {block := (adB.add (j * 5)).block, off := (adB.add (j * 5)).off + 1} = some (.int .i64 u.n) := by rw [add_off _ _ _ (by decide)]; exact (hBy.cell (by rw [block_of_add]; exact hblkB)).trans cc1
          have dB2 : wr.cell? {block := (adB.add (j * 5)).block, off := (adB.add (j * 5)).off + 2} = some (.int .i64 u.c) := by rw [add_off _ _ _ (by decide)]; exact (hBy.cell (by rw [block_of_add]; exact hblkB)).trans cc2
          have dB3 : wr.cell? {block := (adB.add (j * 5)).block, off := (adB.add (j * 5)).off + 3} = some (.string (ba' u.l)) := by rw [add_off _ _ _ (by decide)]; exact (hBy.cell (by rw [block_of_add]; exact hblkB)).trans cc3
          have dB4 : wr.cell? {block := (adB.add (j * 5)).block, off := (adB.add (j * 5)).off + 4} = some (.bool u.b) := by rw [add_off _ _ _ (by decide)]; exact (hBy.cell (by rw [block_of_add]; exact hblkB)).trans cc4
          have lB : (adB.add (j * 5)).block < wr.heap.size := by rw [block_of_add]; exact Nat.lt_of_lt_of_le hblkB hBy.size
          clear cc0 cc1 cc2 cc3 cc4
          have hl2 : decide ((j : Int) < (m : Int)) = true := by first | (simp; done) | (simp; omega)
          obtain ⟨k1, n1, c1, s1, b1, e1, k3, n3, c3, s3, b3, e3, r0, g0, h0, X, Y, PP⟩ := pair_parts op a b HOK.out hbok HOP.out.1 HOP.out.2
          rw [← HEA.out, ← eb] at X Y
          rw [HKQ.out] at PP
          have HX : Hid (Gives 66 #[.agg #[.int .i64 r.k, .int .i64 r.n, .int .i64 r.c, .string (ba' r.l), .bool r.b], .agg #[.int .i64 u.k, .int .i64 u.n, .int .i64 u.c, .string (ba' u.l), .bool u.b]] (.tuple #[.agg #[.int .i64 k1, .int .i64 n1, .int .i64 c1, .string s1, .bool b1], .int .i64 e1])) := X
          have HY : Hid (Gives 66 #[.agg #[.int .i64 u.k, .int .i64 u.n, .int .i64 u.c, .string (ba' u.l), .bool u.b], .agg #[.int .i64 r.k, .int .i64 r.n, .int .i64 r.c, .string (ba' r.l), .bool r.b]] (.tuple #[.agg #[.int .i64 k3, .int .i64 n3, .int .i64 c3, .string s3, .bool b3], .int .i64 e3])) := Y
          have HPP := Lib.hid PP
          have hstep : rowZ op a ys = if (pairZ op a b).1 = true ∨ (pairZ op a b).2 ≠ 0 then some (pairZ op a b) else rowZ op a (ys.drop (j + 1)) := hrow.out.trans (by rw [hdr]; rfl)
          have HST := Lib.hid hstep
          have FIN : Hid (∀ q : Bool × Int, pairZ op a b = q → (q.1 = true ∨ q.2 ≠ 0) → (rb, re) = (q.1, q.2)) := Lib.hid fun q hq hs => by
            have h1 : rowZ op a ys = some q := by rw [HST.out, hq, if_pos hs]
            have h2 := HGO.out
            rw [HR.out] at h2
            have h3 : goZ op ys (a :: xs.drop (i + 1)) = q := by show (match rowZ op a ys with | some r => r | none => goZ op ys (xs.drop (i + 1))) = _; rw [h1]
            exact h2.trans h3
          have NXT : Hid (∀ q : Bool × Int, pairZ op a b = q → ¬ (q.1 = true ∨ q.2 ≠ 0) → Hid (rowZ op a ys = rowZ op a (ys.drop (j + 1)))) := Lib.hid fun q hq hs => Lib.hid (by rw [HST.out, hq, if_neg hs])
          have hws := hBy.size
          clear hbe hbok hjL hdr hstep hrow hu hr eb X Y PP hcellA hcellB
          go_upto_region 7 with fail
          go_cut [10, 11] (fun sa sb wx => ∃ pn : Nat, sa = .pointer (some ⟨pn, 0, none⟩) ∧ sb = .int .i64 e1 ∧ wx.cell? ⟨pn, 0, none⟩ = some (.int .i64 k1) ∧ wx.cell? ⟨pn, 1, none⟩ = some (.int .i64 n1) ∧ wx.cell? ⟨pn, 2, none⟩ = some (.int .i64 c1) ∧ wx.cell? ⟨pn, 3, none⟩ = some (.string s1) ∧ wx.cell? ⟨pn, 4, none⟩ = some (.bool b1) ∧ pn < wx.heap.size ∧ Below w.heap.size w wx ∧ Below wr.heap.size wr wx)
          case first =>
            go_region_held3 (fun w' => w'.cell? (adA.add (i * 5)) = some (.int .i64 r.k) ∧ w'.cell? {block := (adA.add (i * 5)).block, off := (adA.add (i * 5)).off + 1} = some (.int .i64 r.n) ∧ w'.cell? {block := (adA.add (i * 5)).block, off := (adA.add (i * 5)).off + 2} = some (.int .i64 r.c) ∧ w'.cell? {block := (adA.add (i * 5)).block, off := (adA.add (i * 5)).off + 3} = some (.string (ba' r.l)) ∧ w'.cell? {block := (adA.add (i * 5)).block, off := (adA.add (i * 5)).off + 4} = some (.bool r.b) ∧ w'.cell? (adB.add (j * 5)) = some (.int .i64 u.k) ∧ w'.cell? {block := (adB.add (j * 5)).block, off := (adB.add (j * 5)).off + 1} = some (.int .i64 u.n) ∧ w'.cell? {block := (adB.add (j * 5)).block, off := (adB.add (j * 5)).off + 2} = some (.int .i64 u.c) ∧ w'.cell? {block := (adB.add (j * 5)).block, off := (adB.add (j * 5)).off + 3} = some (.string (ba' u.l)) ∧ w'.cell? {block := (adB.add (j * 5)).block, off := (adB.add (j * 5)).off + 4} = some (.bool u.b) ∧ Below w.heap.size w w' ∧ Below wr.heap.size wr w')
              (refine (fun hR : Below wr.heap.size wr _ => ⟨(hR.cell (p := (adA.add (i * 5))) lA).trans dA0, (hR.cell (p := {block := (adA.add (i * 5)).block, off := (adA.add (i * 5)).off + 1}) lA).trans dA1, (hR.cell (p := {block := (adA.add (i * 5)).block, off := (adA.add (i * 5)).off + 2}) lA).trans dA2, (hR.cell (p := {block := (adA.add (i * 5)).block, off := (adA.add (i * 5)).off + 3}) lA).trans dA3, (hR.cell (p := {block := (adA.add (i * 5)).block, off := (adA.add (i * 5)).off + 4}) lA).trans dA4, (hR.cell (p := (adB.add (j * 5))) lB).trans dB0, (hR.cell (p := {block := (adB.add (j * 5)).block, off := (adB.add (j * 5)).off + 1}) lB).trans dB1, (hR.cell (p := {block := (adB.add (j * 5)).block, off := (adB.add (j * 5)).off + 2}) lB).trans dB2, (hR.cell (p := {block := (adB.add (j * 5)).block, off := (adB.add (j * 5)).off + 3}) lB).trans dB3, (hR.cell (p := {block := (adB.add (j * 5)).block, off := (adB.add (j * 5)).off + 4}) lB).trans dB4, ?_, hR⟩) ?_ <;> first | (with_reducible assumption) | (go_keep; done) | (simp; omega) | exact zz (by assumption) (by simp) | exact zz (by assumption) (by assumption) | repeat (with_reducible (first | exact Below.refl _ _ | assumption | apply ba | apply bd | apply bdr | (refine bs ?_ (by first | assumption | (simp; done) | (simp; omega))) | (refine bt ?_ (by assumption)))))
              (first
                | (go_at_call 66; refine (HX.out.call _).mono ?_; rintro e w7 ⟨rfl, hb7⟩; have R7 : Below wr.heap.size wr w7 := (by repeat (with_reducible (first | exact Below.refl _ _ | assumption | apply ba | apply bd | apply bdr | (refine bs ?_ (by first | assumption | (simp; done) | (simp; omega))) | (refine bt ?_ (by assumption))))); have B7 : Below w.heap.size w w7 := (by repeat (with_reducible (first | exact Below.refl _ _ | assumption | apply ba | apply bd | apply bdr | (refine bs ?_ (by first | assumption | (simp; done) | (simp; omega))) | (refine bt ?_ (by assumption))))); have y7 := B7.size; (try (have gc7_0 := fun o => (bcell hb7).1 (wr.heap.size) o (by first | (simp; done) | assumption | (simp; omega)))); (try (have gf7_0 := fun o => (bcell hb7).2 (wr.heap.size) o (by first | (simp; done) | assumption | (simp; omega)))); (try (have gz7_0 : wr.heap.size < w7.heap.size := zz hb7 (by first | (simp; done) | assumption | (simp; omega))))))
            all_goals (first | (go_wp2_with fail; go_meet) | go_meet)
            all_goals exact ⟨_, rfl, rfl, (by first | (go_simp; done) | (simp [go_sem, *]; done)), (by first | (go_simp; done) | (simp [go_sem, *]; done)), (by first | (go_simp; done) | (simp [go_sem, *]; done)), (by first | (go_simp; done) | (simp [go_sem, *]; done)), (by first | (go_simp; done) | (simp [go_sem, *]; done)), (by first | (with_reducible assumption) | (simp; done) | (simp; omega) | omega), by repeat (with_reducible (first | exact Below.refl _ _ | assumption | apply ba | apply bd | apply bdr | (refine bs ?_ (by first | assumption | (simp; done) | (simp; omega))) | (refine bt ?_ (by assumption)))), by repeat (with_reducible (first | exact Below.refl _ _ | assumption | apply ba | apply bd | apply bdr | (refine bs ?_ (by first | assumption | (simp; done) | (simp; omega))) | (refine bt ?_ (by assumption))))⟩
          case rest =>
            obtain ⟨p, rfl, rfl, m0, m1, m2, m3, m4, zp, HB7, HR7⟩ := hcut
            have gnp : p ≠ wc.heap.size := Nat.ne_of_lt zp
            have gmp : wc.heap.size ≠ p := Ne.symm gnp
            rcases HPP.out with ⟨he, hpz⟩ | ⟨he, he3, hpz⟩ | ⟨he, he3, HO, hrest⟩
            · have hf := FIN.out _ hpz (.inr he)
              injection hf with hf1 hf2
              subst hf1
              subst hf2
              have z1 : (re != 0) = true := by simpa using he
              clear he hpz HPP
              go_wp2
              go_ret2
              exact ⟨rfl, by repeat (with_reducible (first | exact Below.refl _ _ | assumption | apply ba | apply bd | apply bdr | (refine bs ?_ (by first | assumption | (simp; done) | (simp; omega))) | (refine bt ?_ (by assumption))))⟩
            · subst he
              have z0 : ((0 : Int) != 0) = false := rfl
              go_upto_region 10 with fail
              refine gen10_region kq n m ca cb i j p adA adB r u k1 n1 c1 s1 b1 0 k3 n3 c3 s3 b3 e3 _ _ _ _ _ _ _ _ _ _ _ _ _ _ _ _ _ _ _ _ _ _ _ _ _ _ _ _ _ _ _ _ _ _ _ _ _ _ _ _ _ _ _ _ _ _ _ _ _ _ _ _ _ _ _ _ _ _ _ _ _ _ _ w wr _ _ dA0 dA1 dA2 dA3 dA4 dB0 dB1 dB2 dB3 dB4 lA lB m0 m1 m2 m3 m4 zp hBy HB7 HR7 hl1 hl2 hlt hlt2 HY ?_
              intro wc p3 y43 y44 y45 y46 y47 y48 y49 y50 y51 y52 y53 y54 v0 v1 v2 v3 v4 zp3 q0 q1 q2 q3 q4 zq HB10 HR10
              focus
                have hf := FIN.out _ hpz (.inr he3)
                injection hf with hf1 hf2
                subst hf1
                subst hf2
                have z1 : (re != 0) = true := by simpa using he3
                clear he3 hpz HPP
                go_wp2
                go_ret2
                exact ⟨rfl, by repeat (with_reducible (first | exact Below.refl _ _ | assumption | apply ba | apply bd | apply bdr | (refine bs ?_ (by first | assumption | (simp; done) | (simp; omega))) | (refine bt ?_ (by assumption))))⟩
            · subst he
              have z0 : ((0 : Int) != 0) = false := rfl
              have HE3 := Lib.hid he3
              have HRT := Lib.hid hrest
              clear he3 hrest
              go_upto_region 10 with fail
              refine gen10_region kq n m ca cb i j p adA adB r u k1 n1 c1 s1 b1 0 k3 n3 c3 s3 b3 e3 _ _ _ _ _ _ _ _ _ _ _ _ _ _ _ _ _ _ _ _ _ _ _ _ _ _ _ _ _ _ _ _ _ _ _ _ _ _ _ _ _ _ _ _ _ _ _ _ _ _ _ _ _ _ _ _ _ _ _ _ _ _ _ w wr _ _ dA0 dA1 dA2 dA3 dA4 dB0 dB1 dB2 dB3 dB4 lA lB m0 m1 m2 m3 m4 zp hBy HB7 HR7 hl1 hl2 hlt hlt2 HY ?_
              intro wc p3 y43 y44 y45 y46 y47 y48 y49 y50 y51 y52 y53 y54 v0 v1 v2 v3 v4 zp3 q0 q1 q2 q3 q4 zq HB10 HR10
              focus
                have he3 := HE3.out
                have hrest := HRT.out
                clear HE3 HRT
                subst he3
                rcases hrest with ⟨hg, hpz⟩ | ⟨hg, HH, hpz⟩
                · have hf := FIN.out _ hpz (.inr hg)
                  injection hf with hf1 hf2
                  subst hf1
                  subst hf2
                  have z1 : (re != 0) = true := by simpa using hg
                  clear hg hpz HPP
                  go_wp2_with fail
                  refine (HO.out.call _).mono ?_
                  rintro e w31 ⟨rfl, hb31⟩
                  have B31 : Below w.heap.size w w31 := (by repeat (with_reducible (first | exact Below.refl _ _ | assumption | apply ba | apply bd | apply bdr | (refine bs ?_ (by first | assumption | (simp; done) | (simp; omega))) | (refine bt ?_ (by assumption)))))
                  have y31 := B31.size
                  go_wp2
                  go_ret2
                  exact ⟨rfl, by repeat (with_reducible (first | exact Below.refl _ _ | assumption | apply ba | apply bd | apply bdr | (refine bs ?_ (by first | assumption | (simp; done) | (simp; omega))) | (refine bt ?_ (by assumption))))⟩
                · subst hg
                  go_wp2_with fail
                  refine (HO.out.call _).mono ?_
                  rintro e w31 ⟨rfl, hb31⟩
                  have B31 : Below w.heap.size w w31 := (by repeat (with_reducible (first | exact Below.refl _ _ | assumption | apply ba | apply bd | apply bdr | (refine bs ?_ (by first | assumption | (simp; done) | (simp; omega))) | (refine bt ?_ (by assumption)))))
                  have y31 := B31.size
                  go_wp2_with fail
                  refine (HH.out.call _).mono ?_
                  rintro e w34 ⟨rfl, hb34⟩
                  have B34 : Below w.heap.size w w34 := (by repeat (with_reducible (first | exact Below.refl _ _ | assumption | apply ba | apply bd | apply bdr | (refine bs ?_ (by first | assumption | (simp; done) | (simp; omega))) | (refine bt ?_ (by assumption)))))
                  have y34 := B34.size
                  cases h0 with
                  | true =>
                    have hf := FIN.out _ hpz (.inl rfl)
                    injection hf with hf1 hf2
                    subst hf1
                    subst hf2
                    clear hpz HPP
                    go_wp2
                    go_ret2
                    exact ⟨rfl, by repeat (with_reducible (first | exact Below.refl _ _ | assumption | apply ba | apply bd | apply bdr | (refine bs ?_ (by first | assumption | (simp; done) | (simp; omega))) | (refine bt ?_ (by assumption))))⟩
                  | false =>
                    have HN2 := NXT.out _ hpz (by simp)
                    clear hpz HPP
                    go_wp2
                    go_roundw
                    case rel => exact ⟨j + 1, by go_num, by omega, HN2, by repeat (with_reducible (first | exact Below.refl _ _ | assumption | apply ba | apply bd | apply bdr | (refine bs ?_ (by first | assumption | (simp; done) | (simp; omega))) | (refine bt ?_ (by assumption))))⟩
                    case measure => simp [intOf]; omega
        · obtain rfl : j = m := by omega
          have hl2 : decide (((j : Nat) : Int) < ((j : Nat) : Int)) = false := by simp
          have HN3 : Hid (goZ op ys xs = goZ op ys (xs.drop (i + 1))) := Lib.hid (by
            have h1 : rowZ op a ys = none := by rw [hrow.out, List.drop_eq_nil_of_le (by rw [HYM.out]; exact Nat.le_refl _)]; rfl
            refine HGO.out.trans ?_
            show (match rowZ op a ys with | some r => r | none => goZ op ys (xs.drop (i + 1))) = _
            rw [h1])
          clear hrow
          go_wp2
          go_roundw
          case rel => exact ⟨i + 1, by go_num, by omega, HN3, by repeat (with_reducible (first | exact Below.refl _ _ | assumption | apply ba | apply bd | apply bdr | (refine bs ?_ (by first | assumption | (simp; done) | (simp; omega))) | (refine bt ?_ (by assumption))))⟩
          case measure => simp [intOf]; omega
    · obtain rfl : i = n := by omega
      have hl1 : decide (((i : Nat) : Int) < ((i : Nat) : Int)) = false := by simp
      have hf : (rb, re) = (false, 0) := by
        rw [← HR.out, hgo.out, List.drop_eq_nil_of_le (by rw [HXN.out]; exact Nat.le_refl _)]; rfl
      injection hf with hf1 hf2
      subst hf1
      subst hf2
      clear hgo
      go_wp2
      go_ret2
      exact ⟨rfl, by repeat (with_reducible (first | exact Below.refl _ _ | assumption | apply ba | apply bd | apply bdr | (refine bs ?_ (by first | assumption | (simp; done) | (simp; omega))) | (refine bt ?_ (by assumption))))⟩
end Go.Proofs.YtemgabmafmehnaaGreatDoor
