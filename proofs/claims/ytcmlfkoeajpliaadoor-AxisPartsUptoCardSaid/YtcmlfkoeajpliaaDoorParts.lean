/- Package node hands on the parts of a node; where they stand. No condition beyond what the theorems state. -/
import Derived.Test.YtcmlfkoeajpliaaDoorStrings
import Derived.Test.YtcmlfkoeajpliaaDoorNesting
namespace Go.Proofs.YtcmlfkoeajpliaaDoor
open Go.RowKit Go.Lib
set_option maxRecDepth 100000
set_option maxHeartbeats 8000000
/-- The parts of a node: the number of each, and the one behind the last. -/
structure PartsOf (L : List En) (i e np tot : Nat) (M : Nat → Nat) : Prop where
  first : M 0 = i + 2
  last : M tot = e + 1
  rise : ∀ q, q < tot → M q < M (q + 1)
  at_ : ∀ q, q < tot → ∃ (k : Int) (n v : List UInt8) (p : Nat), L[M q - 1]? = some ⟨k, n, v, p, M (q + 1) - 1⟩ ∧ (k = 3 ↔ q < np) ∧ 1 ≤ M q ∧ M q ≤ e ∧ 1 ≤ M (q + 1)
theorem parts_inv (sb lim : Nat) (A : Option Addr) (c : Nat) (L : List En) (i : Nat) (k : Int) (n v : List UInt8) (p e np tot : Nat) (M : Nat → Nat) (hi : L[i]? = some ⟨k, n, v, p, e⟩) (hk : k ≠ 0) (hL : L.length ≤ 1048576) (he : e ≤ 1048576) (hM : PartsOf L i e np tot M)
    (fa fk : Nat) (ca ck : Array Value) (ea : ∀ args w, (callFunc fa args).run Tryd.prog w = .ok (.enter fa args) w) (ek : ∀ args w, (callFunc fk args).run Tryd.prog w = .ok (.enter fk args) w)
    (w : World) (hS : StoreAt w sb lim A c L) (I : World → Nat → World → Prop)
    (h0 : ∀ wx : World, Below w.heap.size w wx → w.heap.size < wx.heap.size → I wx 0 wx)
    (hst : ∀ wx q W, I wx q W → StoreAt W sb lim A c L)
    (hbox : ∀ wx q W b, I wx q W → w.heap.size ≤ b → b < wx.heap.size → W.heap[b]? = wx.heap[b]?)
    (hbel : ∀ wx q W W', I wx q W → Below W.heap.size W W' → I wx q W')
    (hA : ∀ wx q W, q < np → q < tot → I wx q W → Calls Tryd.prog fa (#[.int .i64 (M q : Int)] ++ ca) W fun e w' => e = .returned (.tuple #[]) ∧ I wx (q + 1) w')
    (hK : ∀ wx q W, np ≤ q → q < tot → I wx q W → Calls Tryd.prog fk (#[.int .i64 (M q : Int)] ++ ck) W fun e w' => e = .returned (.tuple #[]) ∧ I wx (q + 1) w') :
    Calls Tryd.prog 59 #[.pointer (some ⟨sb, 0, none⟩), .int .i64 ((i : Int) + 1), .func (.func fa) #[] ca, .func (.func fk) #[] ck] w fun e' w' => e' = .returned (.tuple #[]) ∧ ∃ wx : World, Below w.heap.size w wx ∧ w.heap.size < wx.heap.size ∧ I wx tot w' := by
  have HAT := Lib.hid (fun (w1 : World) (hb1 : Below w.heap.size w w1) => at_in sb lim A c L i k n v p e w1 (hS.below hb1) hi hL)
  have HKI := Lib.hid (fun (w1 : World) (hs1 : StoreAt w1 sb lim A c L) (j : Nat) (k n v p e) (hj : L[j]? = some ⟨k, n, v, p, e⟩) => kind_in sb lim A c L j k n v p e w1 hs1 hj hL)
  have HEN := Lib.hid (fun (w1 : World) (hs1 : StoreAt w1 sb lim A c L) (j : Nat) (k n v p e) (hj : L[j]? = some ⟨k, n, v, p, e⟩) => end_in sb lim A c L j k n v p e w1 hs1 hj hL)
  have HM := Lib.hid hM; have H0 := Lib.hid h0; have HST := Lib.hid hst; have HBX := Lib.hid hbox; have HBL := Lib.hid hbel; have HA := Lib.hid hA; have HK := Lib.hid hK
  have g0 : (k == 0) = false := by simpa using hk
  have hi6 : i ≤ 1048576 := by have := (List.getElem?_eq_some_iff.1 hi).1; omega
  clear hS hM h0 hst hbox hbel hA hK hi
  go_enter Tryd.func59, Tryd.ntmps59
  go_wp2_with fail
  refine (HAT.out _ (by repeat (with_reducible (first | exact Below.refl _ _ | assumption | apply ba | apply bd | apply bdr | (refine bs ?_ (by first | assumption | (simp; done) | (simp; omega))) | (refine bt ?_ (by assumption)))))).mono ?_
  rintro e' w1 ⟨rfl, hb1⟩
  have B1 : Below w.heap.size w w1 := (by repeat (with_reducible (first | exact Below.refl _ _ | assumption | apply ba | apply bd | apply bdr | (refine bs ?_ (by first | assumption | (simp; done) | (simp; omega))) | (refine bt ?_ (by assumption)))))
  have z1 := B1.size
  clear hb1 HAT
  go_wp2
  obtain ⟨wx, hwx⟩ : ∃ wx, w1.alloc (.cells #[.int .i64 k, .string (ba' n), .string (ba' v), .int .i64 (p : Int), .int .i64 (e : Int)] 90) = wx := ⟨_, rfl⟩
  have Bx : Below w.heap.size w wx := by rw [← hwx]; exact ba B1
  have zx : wx.heap.size = w1.heap.size + 1 := by rw [← hwx]; simp
  have cx : wx.cell? ⟨w1.heap.size, 4, none⟩ = some (.int .i64 (e : Int)) := by rw [← hwx]; simp
  have hI0 := H0.out wx Bx (by omega)
  have HI0 := Lib.hid hI0
  clear hI0 H0
  try simp only [hwx]
  go_loopw [9] (fun s9 W => ∃ q : Nat, s9 = .int .i64 (M q : Int) ∧ q ≤ tot ∧ Hid (I wx q W)) (fun s9 _ => e + 1 - (intOf s9).toNat)
  case atStart =>
    refine ⟨0, ?_, Nat.zero_le _, HI0⟩
    rw [HM.out.first]; go_num
  case round =>
    obtain ⟨q, rfl, hq, hI⟩ := hrel
    have c4 : wr.cell? ⟨w1.heap.size, 4, none⟩ = some (.int .i64 (e : Int)) := (World.cell?_of_block (HBX.out wx q wr w1.heap.size hI.out z1 (by omega))).trans cx
    have hs := HST.out wx q wr hI.out
    have HS := Lib.hid hs
    clear hs HI0
    by_cases hlt : q < tot
    · obtain ⟨k', n', v', p', hj, h3, hm1, hme, hm2⟩ := HM.out.at_ q hlt
      have hkind : Hid (∀ w1 : World, StoreAt w1 sb lim A c L → Calls Tryd.prog 32 #[.pointer (some ⟨sb, 0, none⟩), .int .i64 (M q : Int)] w1 fun e' w' => e' = .returned (.int .i64 k') ∧ Below w1.heap.size w1 w') := Lib.hid fun w1 h1 => by
        have := HKI.out w1 h1 _ _ _ _ _ _ hj
        rwa [show ((M q - 1 : Nat) : Int) + 1 = (M q : Int) by omega] at this
      have hend : Hid (∀ w1 : World, StoreAt w1 sb lim A c L → Calls Tryd.prog 30 #[.pointer (some ⟨sb, 0, none⟩), .int .i64 (M q : Int)] w1 fun e' w' => e' = .returned (.int .i64 ((M (q + 1) - 1 : Nat) : Int)) ∧ Below w1.heap.size w1 w') := Lib.hid fun w1 h1 => by
        have := HEN.out w1 h1 _ _ _ _ _ _ hj
        rwa [show ((M q - 1 : Nat) : Int) + 1 = (M q : Int) by omega] at this
      have HCA : Hid (q < np → ∀ W, I wx q W → Calls Tryd.prog fa (#[.int .i64 (M q : Int)] ++ ca) W fun e w' => e = .returned (.tuple #[]) ∧ I wx (q + 1) w') := Lib.hid fun h W hW => HA.out wx q W h hlt hW
      have HCK : Hid (np ≤ q → ∀ W, I wx q W → Calls Tryd.prog fk (#[.int .i64 (M q : Int)] ++ ck) W fun e w' => e = .returned (.tuple #[]) ∧ I wx (q + 1) w') := Lib.hid fun h W hW => HK.out wx q W h hlt hW
      have hM6 : M (q + 1) ≤ 1048577 := by
        rcases Nat.lt_or_ge (q + 1) tot with h | h
        · have := (HM.out.at_ (q + 1) h).choose_spec.choose_spec.choose_spec.choose_spec.2.2.2.1; omega
        · have h5 : q + 1 = tot := by omega
          rw [h5, HM.out.last]; omega
      have hMl : M q < M (q + 1) := HM.out.rise q hlt
      obtain ⟨m, hm⟩ : ∃ m, M q = m := ⟨_, rfl⟩
      obtain ⟨m', hm'⟩ : ∃ m', M (q + 1) = m' := ⟨_, rfl⟩
      rw [hm] at hkind hend HCA HCK hm1 hme hMl
      rw [hm'] at hend hm2 hM6 hMl
      have HMM := Lib.hid hm'
      simp only [hm]
      have hw : ((m' - 1 : Nat) : Int) + 1 = (m' : Int) := by omega
      have gl : decide ((m : Int) ≤ (e : Int)) = true := by first | (simp; done) | (simp; omega)
      have gn : decide (m ≤ e) = true := by simpa using hme
      clear hj hm hm'
      by_cases hqn : q < np
      · have hk3 := h3.2 hqn
        subst hk3
        have HC := Lib.hid (HCA.out hqn)
        clear h3 HCA HCK
        go_wp2_with fail
        refine (hkind.out _ HS.out).mono ?_
        rintro e' w5 ⟨rfl, hb5⟩
        have HI5 := Lib.hid (HBL.out wx q wr w5 hI.out hb5)
        go_wp2_with fail
        refine (HC.out _ HI5.out).mono ?_
        rintro e' w6 ⟨rfl, hI6⟩
        have HI6 := Lib.hid hI6
        clear hI6
        go_wp2_with fail
        refine (hend.out _ (HST.out wx _ _ HI6.out)).mono ?_
        rintro e' w7 ⟨rfl, hb7⟩
        have HI7 := Lib.hid (HBL.out wx _ w6 w7 HI6.out hb7)
        clear hb5 hb7
        go_wp2
        go_roundw
        case rel => exact ⟨q + 1, by rw [HMM.out] <;> go_num, by omega, HI7⟩
        case measure => simp [intOf]; omega
      · have hk3 : k' ≠ 3 := fun h => hqn (h3.1 h)
        have g3 : (k' == 3) = false := by simpa using hk3
        have HC := Lib.hid (HCK.out (by omega))
        clear h3 HCA HCK
        go_wp2_with fail
        refine (hkind.out _ HS.out).mono ?_
        rintro e' w5 ⟨rfl, hb5⟩
        have HI5 := Lib.hid (HBL.out wx q wr w5 hI.out hb5)
        go_wp2_with fail
        refine (HC.out _ HI5.out).mono ?_
        rintro e' w6 ⟨rfl, hI6⟩
        have HI6 := Lib.hid hI6
        clear hI6
        go_wp2_with fail
        refine (hend.out _ (HST.out wx _ _ HI6.out)).mono ?_
        rintro e' w7 ⟨rfl, hb7⟩
        have HI7 := Lib.hid (HBL.out wx _ w6 w7 HI6.out hb7)
        clear hb5 hb7
        go_wp2
        go_roundw
        case rel => exact ⟨q + 1, by rw [HMM.out] <;> go_num, by omega, HI7⟩
        case measure => simp [intOf]; omega
    · obtain rfl : q = tot := by omega
      have hl := HM.out.last
      have gl : decide ((M q : Int) ≤ (e : Int)) = false := by rw [hl]; simp; omega
      have gn : decide (M q ≤ e) = false := by rw [hl]; simp
      obtain ⟨m, hm⟩ : ∃ m, M q = m := ⟨_, rfl⟩
      rw [hm] at gl gn
      simp only [hm]
      clear hl hm
      go_wp2
      go_end0
      exact ⟨rfl, wx, Bx, by omega, hI.out⟩
end Go.Proofs.YtcmlfkoeajpliaaDoor
namespace Go.Proofs.YtcmlfkoeajpliaaDoor
open Go.RowKit Go.Lib
/-- A tree lies among nodes, behind b others. -/
def LaidAt (L : List En) (T : PT) (b p : Nat) : Prop := ∃ pre post, L = pre ++ (T.lay b p ++ post) ∧ pre.length = b
theorem LaidAt.at_ {L : List En} {T : PT} {b p : Nat} (h : LaidAt L T b p) {j : Nat} {x : En} (hx : (T.lay b p)[j]? = some x) : L[b + j]? = some x := by
  obtain ⟨pre, post, rfl, hl⟩ := h
  have hj := (List.getElem?_eq_some_iff.1 hx).1
  rw [List.getElem?_append_right (by omega), hl, show b + j - b = j by omega, List.getElem?_append_left hj]
  exact hx
theorem LaidAt.len {L : List En} {T : PT} {b p : Nat} (h : LaidAt L T b p) : b + T.size ≤ L.length := by
  obtain ⟨pre, post, rfl, hl⟩ := h
  rw [List.length_append, List.length_append, lay_len]; omega
theorem LaidAt.more {L M : List En} {T : PT} {b p : Nat} (h : LaidAt L T b p) : LaidAt (L ++ M) T b p := by
  obtain ⟨pre, post, rfl, hl⟩ := h
  exact ⟨pre, post ++ M, by simp, hl⟩
theorem LaidAt.last (L : List En) (T : PT) (p : Nat) : LaidAt (L ++ T.lay L.length p) T L.length p := ⟨L, [], by simp, rfl⟩
theorem lay_head (k : Int) (n v : List UInt8) (ps : List (List UInt8 × List UInt8)) (ks : List PT) (b p : Nat) :
    ((PT.mk k n v ps ks).lay b p)[0]? = some ⟨k, n, v, p, b + (1 + ps.length + sizeL ks)⟩ := by rw [PT.lay]; rfl
theorem lay_pair (k : Int) (n v : List UInt8) (ps : List (List UInt8 × List UInt8)) (ks : List PT) (b p : Nat) {q : Nat} {x : List UInt8 × List UInt8} (h : ps[q]? = some x) :
    ((PT.mk k n v ps ks).lay b p)[1 + q]? = some ⟨3, x.1, x.2, b + 1, b + 1 + q + 1⟩ := by
  have hq := (List.getElem?_eq_some_iff.1 h).1
  rw [PT.lay, show 1 + q = q + 1 by omega, List.getElem?_cons_succ, List.getElem?_append_left (by rw [layP_len]; exact hq)]
  have e := layP_app (ps.take (q + 1)) (ps.drop (q + 1)) (b + 1) (b + 1)
  rw [List.take_append_drop, layP_take ps q x h] at e
  have hl : (layP (ps.take q) (b + 1) (b + 1)).length = q := by rw [layP_len, List.length_take]; omega
  rw [e, List.append_assoc, List.getElem?_append_right (by omega), hl]
  simp
theorem lay_kid {L : List En} {k : Int} {n v : List UInt8} {ps : List (List UInt8 × List UInt8)} {ks : List PT} {b p : Nat} (h : LaidAt L (.mk k n v ps ks) b p) {j : Nat} {t : PT} (ht : ks[j]? = some t) :
    LaidAt L t (b + 1 + ps.length + sizeL (ks.take j)) (b + 1) := by
  obtain ⟨pre, post, rfl, hl⟩ := h
  have e := layL_app (ks.take (j + 1)) (ks.drop (j + 1)) (b + 1 + ps.length) (b + 1)
  rw [List.take_append_drop, layL_take ks j t ht] at e
  rw [PT.lay, e]
  refine ⟨pre ++ (⟨k, n, v, p, b + (1 + ps.length + sizeL ks)⟩ :: (layP ps (b + 1) (b + 1) ++ layL (ks.take j) (b + 1 + ps.length) (b + 1))), layL (ks.drop (j + 1)) (b + 1 + ps.length + sizeL (ks.take (j + 1))) (b + 1) ++ post, by simp, ?_⟩
  simp only [List.length_append, List.length_cons, layP_len, layL_len]
  omega
/-- The number of a part, and behind the last the number behind the tree. -/
def partM (b : Nat) (np : Nat) (ks : List PT) (q : Nat) : Nat := b + 2 + min q np + sizeL (ks.take (q - np))
theorem partM_pair {b np : Nat} {ks : List PT} {q : Nat} (h : q ≤ np) : partM b np ks q = b + 2 + q := by
  unfold partM
  rw [Nat.min_eq_left h, show q - np = 0 by omega, List.take_zero, sizeL, Nat.add_zero]
theorem partM_kid {b np : Nat} {ks : List PT} (j : Nat) : partM b np ks (np + j) = b + 2 + np + sizeL (ks.take j) := by
  unfold partM
  rw [Nat.min_eq_right (by omega), show np + j - np = j by omega]
theorem rightL_mem : ∀ {L : List PT} {d : Nat} {last : Int}, rightL L d last = true → ∀ t ∈ L, t.right d = true ∧ t.k ≠ 3
  | [], _, _, _, t, ht => nomatch ht
  | a :: L, d, last, h, t, ht => by
    rw [rightL] at h
    simp only [Bool.and_eq_true] at h
    rcases List.mem_cons.1 ht with rfl | ht
    · refine ⟨h.1.2, ?_⟩
      have := h.1.1
      unfold kidR at this
      simp at this
      omega
    · exact rightL_mem h.2 t ht
theorem right_kid {k : Int} {n v : List UInt8} {ps : List (List UInt8 × List UInt8)} {ks : List PT} {d : Nat} (h : (PT.mk k n v ps ks).right d = true) : k ≠ 0 ∧ ∀ t ∈ ks, t.right (d + 1) = true ∧ t.k ≠ 3 := by
  rw [PT.right] at h
  simp only [Bool.and_eq_true] at h
  exact ⟨right_knot0 h.1.2, rightL_mem h.2⟩
theorem parts_of {L : List En} {k : Int} {n v : List UInt8} {ps : List (List UInt8 × List UInt8)} {ks : List PT} {b p : Nat} (h : LaidAt L (.mk k n v ps ks) b p) (hk : ∀ t ∈ ks, t.k ≠ 3) :
    PartsOf L b (b + (1 + ps.length + sizeL ks)) ps.length (ps.length + ks.length) (partM b ps.length ks) := by
  have step : ∀ q, q < ps.length + ks.length → partM b ps.length ks q < partM b ps.length ks (q + 1) := by
    intro q hq
    rcases Nat.lt_or_ge q ps.length with h1 | h1
    · rw [partM_pair (by omega), partM_pair (by omega)]; omega
    · obtain ⟨j, rfl⟩ : ∃ j, q = ps.length + j := ⟨q - ps.length, by omega⟩
      have hj : j < ks.length := by omega
      obtain ⟨t, ht⟩ : ∃ t, ks[j]? = some t := ⟨_, List.getElem?_eq_getElem hj⟩
      rw [show ps.length + j + 1 = ps.length + (j + 1) by omega, partM_kid, partM_kid, sizeL_take ks j t ht]
      have := size_pos t
      omega
  refine ⟨?_, ?_, step, ?_⟩
  · rw [partM_pair (by omega)]
  · rw [partM_kid, List.take_length]; omega
  · intro q hq
    rcases Nat.lt_or_ge q ps.length with h1 | h1
    · obtain ⟨x, hx⟩ : ∃ x, ps[q]? = some x := ⟨_, List.getElem?_eq_getElem h1⟩
      have := h.at_ (lay_pair k n v ps ks b p hx)
      rw [partM_pair (by omega), partM_pair (by omega)]
      refine ⟨3, x.1, x.2, b + 1, ?_, by simp [h1], by omega, by omega, by omega⟩
      rw [show b + 2 + q - 1 = b + (1 + q) by omega, show b + 2 + (q + 1) - 1 = b + 1 + q + 1 by omega]
      exact this
    · obtain ⟨j, rfl⟩ : ∃ j, q = ps.length + j := ⟨q - ps.length, by omega⟩
      have hj : j < ks.length := by omega
      obtain ⟨t, ht⟩ : ∃ t, ks[j]? = some t := ⟨_, List.getElem?_eq_getElem hj⟩
      have hl := lay_kid h ht
      have hs := sizeL_take ks j t ht
      have hle := sizeL_take_le ks (j + 1)
      have htk := hk t (List.mem_of_getElem? ht)
      have hp := size_pos t
      obtain ⟨k', n', v', ps', ks'⟩ := t
      have h0 := hl.at_ (lay_head k' n' v' ps' ks' _ _)
      rw [show ps.length + j + 1 = ps.length + (j + 1) by omega, partM_kid, partM_kid]
      refine ⟨k', n', v', b + 1, ?_, ⟨fun e => absurd e htk, fun e => by omega⟩, by omega, by omega, by omega⟩
      rw [show b + 2 + ps.length + sizeL (ks.take j) - 1 = b + 1 + ps.length + sizeL (ks.take j) + 0 by omega, h0, hs, PT.size]
      congr 2
      omega
end Go.Proofs.YtcmlfkoeajpliaaDoor
