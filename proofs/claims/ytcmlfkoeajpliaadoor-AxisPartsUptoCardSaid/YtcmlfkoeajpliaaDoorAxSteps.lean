/- Package axis goes from node to node. No condition beyond what the theorems state. -/
import Derived.Test.YtcmlfkoeajpliaaDoorAxWords
import Derived.Test.YtcmlfkoeajpliaaDoorNumbers
import Derived.Test.YtcmlfkoeajpliaaDoorPieces
namespace Go.Proofs.YtcmlfkoeajpliaaDoor
open Go.RowKit Go.Lib
set_option maxRecDepth 100000
set_option maxHeartbeats 8000000
theorem kindC {sb lim : Nat} {A : Option Addr} {c : Nat} {L : List En} {w : World} (hS : StoreAt w sb lim A c L) (hL : L.length ≤ 1048576) (n : Nat) :
    Calls Tryd.prog 32 #[.pointer (some ⟨sb, 0, none⟩), .int .i64 (n : Int)] w fun e' w' => e' = .returned (.int .i64 (kdN L n)) ∧ Below w.heap.size w w' := by
  by_cases h : n = 0 ∨ L.length < n
  · rw [(told_out h).1]
    exact kind_out sb _ w (Lib.hid fun w1 hb => at_out sb lim A c L _ w1 (hS.below hb) hL (by omega))
  · obtain ⟨x, hx, e, _, _⟩ := told_in (L := L) (n := n) (by omega) (by omega)
    rw [e]
    have := kind_in sb lim A c L (n - 1) _ _ _ _ _ w hS hx hL
    rwa [show ((n - 1 : Nat) : Int) + 1 = (n : Int) by omega] at this
theorem parC {sb lim : Nat} {A : Option Addr} {c : Nat} {L : List En} {w : World} (hS : StoreAt w sb lim A c L) (hL : L.length ≤ 1048576) (n : Nat) :
    Calls Tryd.prog 31 #[.pointer (some ⟨sb, 0, none⟩), .int .i64 (n : Int)] w fun e' w' => e' = .returned (.int .i64 (prN L n : Int)) ∧ Below w.heap.size w w' := by
  by_cases h : n = 0 ∨ L.length < n
  · rw [(told_out h).2.1]
    exact parent_out sb _ w (Lib.hid fun w1 hb => at_out sb lim A c L _ w1 (hS.below hb) hL (by omega))
  · obtain ⟨x, hx, _, e, _⟩ := told_in (L := L) (n := n) (by omega) (by omega)
    rw [e]
    have := parent_in sb lim A c L (n - 1) _ _ _ _ _ w hS hx hL
    rwa [show ((n - 1 : Nat) : Int) + 1 = (n : Int) by omega] at this
theorem endC {sb lim : Nat} {A : Option Addr} {c : Nat} {L : List En} {w : World} (hS : StoreAt w sb lim A c L) (hL : L.length ≤ 1048576) (n : Nat) :
    Calls Tryd.prog 30 #[.pointer (some ⟨sb, 0, none⟩), .int .i64 (n : Int)] w fun e' w' => e' = .returned (.int .i64 (enN L n : Int)) ∧ Below w.heap.size w w' := by
  by_cases h : n = 0 ∨ L.length < n
  · rw [(told_out h).2.2]
    exact end_out sb _ w (Lib.hid fun w1 hb => at_out sb lim A c L _ w1 (hS.below hb) hL (by omega))
  · obtain ⟨x, hx, _, _, e⟩ := told_in (L := L) (n := n) (by omega) (by omega)
    rw [e]
    have := end_in sb lim A c L (n - 1) _ _ _ _ _ w hS hx hL
    rwa [show ((n - 1 : Nat) : Int) + 1 = (n : Int) by omega] at this
theorem en_le {L : List En} (h : Ord L.length (kdN L) (prN L) (enN L)) (n : Nat) : enN L n ≤ L.length := by
  by_cases h1 : n = 0 ∨ L.length < n
  · rw [(told_out h1).2.2]; omega
  · exact (h.enr n (by omega) (by omega)).2
theorem pr_le {L : List En} (h : Ord L.length (kdN L) (prN L) (enN L)) (n : Nat) : prN L n ≤ L.length := by
  by_cases h1 : n = 0 ∨ L.length < n
  · rw [(told_out h1).2.1]; omega
  · have := h.plt n (by omega) (by omega); omega
/-- The number of no kind 3 that comes next. -/
theorem inner_any {sb lim : Nat} {A : Option Addr} {c : Nat} {L : List En} {w : World} (hS : StoreAt w sb lim A c L) (hL : L.length ≤ 1048576) (hO : Ord L.length (kdN L) (prN L) (enN L)) (n m : Nat) (hm : m ≤ enN L n) :
    Calls Tryd.prog 89 #[.agg #[.pointer (some ⟨sb, 0, none⟩), .int .i64 (n : Int)], .int .i64 (m : Int)] w fun e' w' => e' = .returned (.int .i64 (innerF (kdN L) (enN L) n m : Int)) ∧ Below w.heap.size w w' := by
  have HK := Lib.hid (fun (w1 : World) (hb1 : Below w.heap.size w w1) (j : Nat) => kindC (hS.below hb1) hL j)
  have HE := Lib.hid (fun (w1 : World) (hb1 : Below w.heap.size w w1) => endC (hS.below hb1) hL n)
  have hel := en_le hO n
  have HR : Hid (∀ r : Nat, m < r → r ≤ enN L n → kdN L r ≠ 3 → (∀ j, m < j → j < r → kdN L j = 3) → innerF (kdN L) (enN L) n m = r) := Lib.hid fun r h1 h2 h3 h4 => up_is h1 h2 (by simp [h3]) (fun j j1 j2 => by simp [h4 j j1 j2])
  have HZ : Hid ((∀ j, m < j → j ≤ enN L n → kdN L j = 3) → innerF (kdN L) (enN L) n m = 0) := Lib.hid fun h4 => up_zero (fun j j1 j2 => by simp [h4 j j1 j2])
  obtain ⟨r, hr⟩ : ∃ r, innerF (kdN L) (enN L) n m = r := ⟨_, rfl⟩
  obtain ⟨e, he⟩ : ∃ e, enN L n = e := ⟨_, rfl⟩
  rw [hr] at HR HZ ⊢
  rw [he] at HE HR HZ hel hm
  have hsb := hS.1
  clear hS hO hr he
  have hf0 := fun (x0 x1 : Value) (w : World) => (by kernel_rfl : (Instr.field 123 (.agg #[x0, x1]) 0).run Tryd.prog w = .ok (x0) w)
  go_enter Tryd.func89, Tryd.ntmps89
  go_wp2
  obtain ⟨wx, hwx⟩ : ∃ wx, w.alloc (.cells #[.pointer (some ⟨sb, 0, none⟩), .int .i64 (n : Int)] 123) = wx := ⟨_, rfl⟩
  have Bx : Below w.heap.size w wx := by rw [← hwx]; exact ba (Below.refl _ _)
  have zx : wx.heap.size = w.heap.size + 1 := by rw [← hwx]; simp
  have c0 : wx.cell? ⟨w.heap.size, 0, none⟩ = some (.pointer (some ⟨sb, 0, none⟩)) := by rw [← hwx]; simp
  have c1 : wx.cell? ⟨w.heap.size, 1, none⟩ = some (.int .i64 (n : Int)) := by rw [← hwx]; simp
  try simp only [hwx]
  go_loopw [1] (fun s1 W => ∃ q : Nat, s1 = .int .i64 (q : Int) ∧ m < q ∧ q ≤ e + 1 ∧ Hid (∀ j, m < j → j < q → kdN L j = 3) ∧ Below wx.heap.size wx W) (fun s1 _ => e + 1 - (intOf s1).toNat)
  case atStart => exact ⟨m + 1, by go_num, by omega, by omega, Lib.hid (fun j h1 h2 => by omega), Below.refl _ _⟩
  case round =>
    obtain ⟨q, rfl, hq1, hq2, hq3, hB⟩ := hrel
    have d0 := (hB.cell (p := ⟨w.heap.size, 0, none⟩) (by show w.heap.size < _; omega)).trans c0
    have d1 := (hB.cell (p := ⟨w.heap.size, 1, none⟩) (by show w.heap.size < _; omega)).trans c1
    have BW : Below w.heap.size w wr := bt Bx hB
    go_wp2_with fail
    refine (HE.out _ BW).mono ?_
    rintro e' w3 ⟨rfl, hb3⟩
    have B3 : Below w.heap.size w w3 := bt BW hb3
    have Bx3 : Below wx.heap.size wx w3 := bt hB hb3
    have d0_3 := (hb3.cell (p := ⟨w.heap.size, 0, none⟩) (by show w.heap.size < _; have := hB.size; omega)).trans d0
    clear hb3
    by_cases hle : q ≤ e
    · have g1 : decide ((q : Int) ≤ (e : Int)) = true := by simp; omega
      have g2 : decide (q ≤ e) = true := by simpa using hle
      go_wp2_with fail
      refine (HK.out _ B3 q).mono ?_
      rintro e' w4 ⟨rfl, hb4⟩
      have B4 : Below w.heap.size w w4 := bt B3 hb4
      have Bx4 : Below wx.heap.size wx w4 := bt Bx3 hb4
      clear hb4
      obtain ⟨k, hk⟩ : ∃ k, kdN L q = k := ⟨_, rfl⟩
      rw [hk]
      have HKQ := Lib.hid hk
      clear hk
      by_cases hk3 : k = 3
      · subst hk3
        go_wp2
        go_roundw
        case rel => exact ⟨q + 1, by go_num, by omega, by omega, Lib.hid (fun j h1 h2 => by
          rcases Nat.eq_or_lt_of_le (show j ≤ q by omega) with rfl | h
          · exact HKQ.out
          · exact hq3.out j h1 h), Bx4⟩
        case measure => simp [intOf]; omega
      · have gk : (k == 3) = false := by simpa using hk3
        have gk' : decide (k = 3) = false := by simpa using hk3
        have hrq := HR.out q hq1 hle (by rw [HKQ.out]; exact hk3) hq3.out
        subst hrq
        go_wp2
        go_ret
        exact ⟨rfl, B4⟩
    · have g1 : decide ((q : Int) ≤ (e : Int)) = false := by simp; omega
      have g2 : decide (q ≤ e) = false := by simpa using hle
      have hr0 := HZ.out (fun j h1 h2 => hq3.out j h1 (by omega))
      subst hr0
      go_wp2
      go_ret
      exact ⟨rfl, B3⟩
end Go.Proofs.YtcmlfkoeajpliaaDoor
namespace Go.Proofs.YtcmlfkoeajpliaaDoor
open Go.RowKit Go.Lib
set_option maxRecDepth 100000
set_option maxHeartbeats 8000000
theorem attr_any {sb lim : Nat} {A : Option Addr} {c : Nat} {L : List En} {w : World} (hS : StoreAt w sb lim A c L) (hL : L.length ≤ 1048576) (n m : Nat) (hm : m ≤ L.length) :
    Calls Tryd.prog 91 #[.agg #[.pointer (some ⟨sb, 0, none⟩), .int .i64 (n : Int)], .int .i64 (m : Int)] w fun e' w' => e' = .returned (.int .i64 (attrF (kdN L) (enN L) n m : Int)) ∧ Below w.heap.size w w' := by
  have HK : Hid (∀ w1 : World, Below w.heap.size w w1 → Calls Tryd.prog 32 #[.pointer (some ⟨sb, 0, none⟩), .int .i64 ((m : Int) + 1)] w1 fun e' w' => e' = .returned (.int .i64 (kdN L (m + 1))) ∧ Below w1.heap.size w1 w') := Lib.hid fun w1 hb1 => by
    have := kindC (hS.below hb1) hL (m + 1)
    rwa [show ((m + 1 : Nat) : Int) = (m : Int) + 1 by omega] at this
  have HE := Lib.hid (fun (w1 : World) (hb1 : Below w.heap.size w w1) => endC (hS.below hb1) hL n)
  have HR : Hid (m = enN L n ∨ kdN L (m + 1) ≠ 3 → attrF (kdN L) (enN L) n m = 0) := Lib.hid fun h => by unfold attrF; rw [if_pos h]
  have HZ : Hid (¬ (m = enN L n ∨ kdN L (m + 1) ≠ 3) → attrF (kdN L) (enN L) n m = m + 1) := Lib.hid fun h => by unfold attrF; rw [if_neg h]
  obtain ⟨r, hr⟩ : ∃ r, attrF (kdN L) (enN L) n m = r := ⟨_, rfl⟩
  obtain ⟨e, he⟩ : ∃ e, enN L n = e := ⟨_, rfl⟩
  obtain ⟨k, hk⟩ : ∃ k, kdN L (m + 1) = k := ⟨_, rfl⟩
  rw [hr, he, hk] at HR HZ
  rw [hr]
  rw [hk] at HK
  rw [he] at HE
  clear hS hr he hk
  go_enter Tryd.func91, Tryd.ntmps91
  go_wp2_with fail
  refine (HE.out _ (ba (Below.refl _ _))).mono ?_
  rintro e' w3 ⟨rfl, hb3⟩
  have B3 : Below w.heap.size w w3 := bt (ba (Below.refl _ _)) hb3
  have d0 := (hb3.cell (p := ⟨w.heap.size, 0, none⟩) (by show w.heap.size < _; simp)).trans (show _ = some (Value.pointer (some ⟨sb, 0, none⟩)) by simp)
  clear hb3
  by_cases h1 : m = e
  · subst h1
    have g1 : ((m : Int) == (m : Int)) = true := by simp
    have h0 := HR.out (.inl rfl)
    subst h0
    go_wp2
    go_ret
    exact ⟨rfl, B3⟩
  · have g1 : ((m : Int) == (e : Int)) = false := by simpa using (by omega : ¬ (m : Int) = (e : Int))
    have g2 : (m == e) = false := by simpa using h1
    go_wp2_with fail
    refine (HK.out _ B3).mono ?_
    rintro e' w4 ⟨rfl, hb4⟩
    have B4 : Below w.heap.size w w4 := bt B3 hb4
    clear hb4
    by_cases hk3 : k = 3
    · subst hk3
      have h0 := HZ.out (by simp; omega)
      subst h0
      go_wp2
      go_ret
      exact ⟨rfl, B4⟩
    · have gk : (k == 3) = false := by simpa using hk3
      have gk' : decide (k = 3) = false := by simpa using hk3
      have h0 := HR.out (.inr hk3)
      subst h0
      go_wp2
      go_ret
      exact ⟨rfl, B4⟩
theorem before_any {sb lim : Nat} {A : Option Addr} {c : Nat} {L : List En} {w : World} (hS : StoreAt w sb lim A c L) (hL : L.length ≤ 1048576) (hO : Ord L.length (kdN L) (prN L) (enN L)) (n m : Nat) (hm : m ≤ L.length) :
    Calls Tryd.prog 92 #[.agg #[.pointer (some ⟨sb, 0, none⟩), .int .i64 (n : Int)], .int .i64 (m : Int)] w fun e' w' => e' = .returned (.int .i64 (beforeF (kdN L) (prN L) m : Int)) ∧ Below w.heap.size w w' := by
  have HK := Lib.hid (fun (w1 : World) (hb1 : Below w.heap.size w w1) (j : Nat) => kindC (hS.below hb1) hL j)
  have HP := Lib.hid (fun (w1 : World) (hb1 : Below w.heap.size w w1) (j : Nat) => parC (hS.below hb1) hL j)
  have hple := pr_le hO
  have hpl : ∀ j, 1 ≤ j → j ≤ L.length → prN L j < j := hO.plt
  have HR : Hid (prN L m = 0 → beforeF (kdN L) (prN L) m = 0) := Lib.hid fun h => by unfold beforeF; rw [if_pos h]
  have HZ : Hid (prN L m ≠ 0 → ∀ q, lastF (prN L) (prN L m) m (m - 1) = q → beforeF (kdN L) (prN L) m = if q = prN L m ∨ kdN L q = 3 then 0 else q) := Lib.hid fun h q hq => by unfold beforeF; rw [if_neg h, hq]
  obtain ⟨p, hp⟩ : ∃ p, prN L m = p := ⟨_, rfl⟩
  obtain ⟨r, hr⟩ : ∃ r, beforeF (kdN L) (prN L) m = r := ⟨_, rfl⟩
  have hmp : p ≠ 0 → 1 ≤ m ∧ p < m := fun h => by
    by_cases h1 : m = 0 ∨ L.length < m
    · have := (told_out h1).2.1; omega
    · have := hpl m (by omega) (by omega); omega
  have hpL : p ≤ L.length := by rw [← hp]; exact hple m
  have HN : Hid (p ≠ 0 → ∀ q, p < q → q < m → p ≤ prN L q) := Lib.hid fun h q h1 h2 => by
    have h3 := hmp h
    have h4 := hO.kid (n := p) (by omega) h3.1 hm hp
    exact ((hO.nest p q (by omega) h1 (by omega)).1.1 (by omega)).1
  rw [hr, hp] at HR HZ
  rw [hr]
  have HPM : Hid (∀ w1 : World, Below w.heap.size w w1 → Calls Tryd.prog 31 #[.pointer (some ⟨sb, 0, none⟩), .int .i64 (m : Int)] w1 fun e' w' => e' = .returned (.int .i64 (p : Int)) ∧ Below w1.heap.size w1 w') := Lib.hid fun w1 hb1 => by
    have := HP.out w1 hb1 m
    rwa [hp] at this
  have HMP := Lib.hid hmp; have HPL := Lib.hid hpl; have HPLE := Lib.hid hple
  clear hS hr hp hmp hpl hO hple
  go_enter Tryd.func92, Tryd.ntmps92
  go_wp2_with fail
  refine (HPM.out _ (ba (Below.refl _ _))).mono ?_
  rintro e' w3 ⟨rfl, hb3⟩
  have B3 : Below w.heap.size w w3 := bt (ba (Below.refl _ _)) hb3
  have d0 := (hb3.cell (p := ⟨w.heap.size, 0, none⟩) (by show w.heap.size < _; simp)).trans (show _ = some (Value.pointer (some ⟨sb, 0, none⟩)) by simp)
  have z3 : w.heap.size < w3.heap.size := by have := hb3.size; simp at this; omega
  clear hb3
  by_cases h0 : p = 0
  · subst h0
    have h0 := HR.out rfl
    subst h0
    simp only [show ((0 : Nat) : Int) = 0 from rfl]
    go_wp2
    go_ret
    exact ⟨rfl, B3⟩
  · have g1 : ((p : Int) == 0) = false := by simpa using (by omega : ¬ (p : Int) = 0)
    have g2 : (p == 0) = false := by simpa using h0
    have h1 := HMP.out h0
    have HL := Lib.hid (HZ.out h0)
    clear HZ HR
    go_wp2
    go_loopw [6] (fun s6 W => ∃ q f : Nat, s6 = .int .i64 (q : Int) ∧ q ≤ L.length ∧ q ≤ f ∧ p ≤ q ∧ q < m ∧ Hid (lastF (prN L) p m (m - 1) = lastF (prN L) p f q) ∧ Below w3.heap.size w3 W) (fun s6 _ => (intOf s6).toNat)
    case atStart => exact ⟨m - 1, m, by rw [show ((m - 1 : Nat) : Int) = (m : Int) - 1 by omega], by omega, by omega, by omega, by omega, Lib.hid rfl, Below.refl _ _⟩
    case round =>
      obtain ⟨q, f, rfl, hq, hqf, hpq, hqm, hl, hB⟩ := hrel
      have d0r := (hB.cell (p := ⟨w.heap.size, 0, none⟩) (show w.heap.size < _ from z3)).trans d0
      have BW : Below w.heap.size w wr := bt B3 hB
      by_cases e1 : q = p
      · subst e1
        have g3 : ((q : Int) != (q : Int)) = false := by simp
        have g4 : ((q : Int) == (q : Int)) = true := by simp
        have hr0 := HL.out q (by rw [hl.out]; cases f with | zero => rfl | succ f => rw [lastF, if_pos (.inl rfl)])
        rw [if_pos (.inl rfl)] at hr0
        subst hr0
        go_wp2
        go_ret
        exact ⟨rfl, BW⟩
      · have g3 : ((q : Int) != (p : Int)) = true := by simpa using (by omega : ¬ (q : Int) = (p : Int))
        have g3' : (q != p) = true := by simpa using e1
        have g4 : ((q : Int) == (p : Int)) = false := by simpa using (by omega : ¬ (q : Int) = (p : Int))
        have g4' : (q == p) = false := by simpa using e1
        go_wp2_with fail
        refine (HP.out _ BW q).mono ?_
        rintro e' w4 ⟨rfl, hb4⟩
        have B4 : Below w.heap.size w w4 := bt BW hb4
        have Bx4 : Below w3.heap.size w3 w4 := bt hB hb4
        have d04 := (Bx4.cell (p := ⟨w.heap.size, 0, none⟩) (show w.heap.size < _ from z3)).trans d0
        clear hb4
        obtain ⟨u, hu⟩ : ∃ u, prN L q = u := ⟨_, rfl⟩
        rw [hu]
        have huL : u ≤ L.length := by rw [← hu]; exact HPLE.out q
        have HU := Lib.hid hu
        clear hu
        by_cases e2 : u = p
        · subst e2
          have g5 : ((u : Int) != (u : Int)) = false := by simp
          have hr0 := HL.out q (by rw [hl.out]; cases f with | zero => rfl | succ f => rw [lastF, if_pos (.inr HU.out)])
          go_wp2_with fail
          refine (HK.out _ B4 q).mono ?_
          rintro e' w5 ⟨rfl, hb5⟩
          have B5 : Below w.heap.size w w5 := bt B4 hb5
          clear hb5
          obtain ⟨k, hk⟩ : ∃ k, kdN L q = k := ⟨_, rfl⟩
          rw [hk] at hr0 ⊢
          clear hk
          by_cases e3 : k = 3
          · subst e3
            rw [if_pos (.inr rfl)] at hr0
            subst hr0
            go_wp2
            go_ret
            exact ⟨rfl, B5⟩
          · have gk : (k == 3) = false := by simpa using e3
            have gk' : decide (k = 3) = false := by simpa using e3
            rw [if_neg (by rintro (h | h) <;> contradiction)] at hr0
            subst hr0
            go_wp2
            go_ret
            exact ⟨rfl, B5⟩
        · have g5 : ((u : Int) != (p : Int)) = true := by simpa using (by omega : ¬ (u : Int) = (p : Int))
          have g5' : (u != p) = true := by simpa using e2
          have hpu : p ≤ u := by rw [← HU.out]; exact HN.out h0 q (by omega) hqm
          have hlt : u < q := by rw [← HU.out]; exact HPL.out q (by omega) hq
          go_wp2_with fail
          refine (HP.out _ B4 q).mono ?_
          rintro e' w5 ⟨rfl, hb5⟩
          have Bx5 : Below w3.heap.size w3 w5 := bt Bx4 hb5
          clear hb5
          rw [HU.out]
          go_wp2
          go_roundw
          case rel => exact ⟨u, f - 1, rfl, huL, by omega, hpu, by omega, Lib.hid (by
            rw [hl.out]
            cases f with
            | zero => omega
            | succ f => rw [lastF, if_neg (by rw [HU.out]; rintro (h | h) <;> contradiction), HU.out]; rfl), Bx5⟩
          case measure => simp [intOf]; omega
end Go.Proofs.YtcmlfkoeajpliaaDoor
namespace Go.Proofs.YtcmlfkoeajpliaaDoor
open Go.RowKit Go.Lib
set_option maxRecDepth 100000
set_option maxHeartbeats 8000000
theorem lk {listed : Array Bool} {i j : Nat} {p : Prop} (F : listed.getD j false = true → p) (h : i ≠ j := by decide) : (listed.setIfInBounds i true).getD j false = true → p := fun q => F (ls h q)
theorem cell_call {w w' : World} {B o : Nat} {v : Value} (h : w.cell? ⟨B, o, none⟩ = some v) (hb : Below w.heap.size w w') : w'.cell? ⟨B, o, none⟩ = some v := ((bcell hb).1 B o (World.block_lt_of_cell? w _ h)).trans h
def AfOnI (w0 : World) (gb sb : Nat) (m x k p e : Int) (r : Bool) (c0 c3 c6 c7 c8 c9 c10 c27 : Value) (listed : Array Bool) (A : Act) (w : World) : Prop := ∃ (s11 s12 s13 s14 s15 s16 s17 s18 s19 s20 s21 s22 s23 s24 s25 s26 : Value), A = { tmps := #[c0, .int .i64 m, .pointer (some ⟨gb, 0, none⟩), c3, .int .i64 0, .int .i64 x, c6, c7, c8, c9, c10, s11, s12, s13, s14, s15, s16, s17, s18, s19, s20, s21, s22, s23, s24, s25, s26, c27], defers := [] } ∧
  (listed.getD 0 false = true → s11 = .pointer (some ⟨gb, 0, none⟩)) ∧
  (listed.getD 1 false = true → s12 = .pointer (some ⟨sb, 0, none⟩)) ∧
  (listed.getD 2 false = true → s13 = .int .i64 m) ∧
  (listed.getD 3 false = true → s14 = .int .i64 k) ∧
  (listed.getD 4 false = true → s15 = .bool false) ∧
  (listed.getD 5 false = true → s16 = .bool false) ∧
  (listed.getD 6 false = true → s17 = .int .i64 x) ∧
  (listed.getD 7 false = true → s18 = .pointer (some ⟨gb, 0, none⟩)) ∧
  (listed.getD 8 false = true → s19 = .pointer (some ⟨sb, 0, none⟩)) ∧
  (listed.getD 9 false = true → s20 = .pointer (some ⟨gb, 0, none⟩)) ∧
  (listed.getD 10 false = true → s21 = .pointer (some ⟨sb, 0, none⟩)) ∧
  (listed.getD 11 false = true → s22 = .int .i64 m) ∧
  (listed.getD 12 false = true → s23 = .int .i64 p) ∧
  (listed.getD 13 false = true → s24 = .int .i64 e) ∧
  (listed.getD 14 false = true → s25 = .bool r) ∧
  (listed.getD 15 false = true → s26 = .bool r) ∧
  Below w0.heap.size w0 w ∧
  w.cell? ⟨gb, 0, none⟩ = some (.pointer (some ⟨sb, 0, none⟩))
set_option maxRecDepth 100000 in
set_option maxHeartbeats 16000000 in
theorem AfOn_region (gb sb : Nat) (m x k p e : Int) (r : Bool) (x11 x12 x13 x14 x15 x16 x17 x18 x19 x20 x21 x22 x23 x24 x25 x26 : Value) (c0 c3 c6 c7 c8 c9 c10 c27 : Value) (w0 W : World) (Q : Exit → Act → World → Prop) (hb0 : Below w0.heap.size w0 W) (C0 : W.cell? ⟨gb, 0, none⟩ = some (.pointer (some ⟨sb, 0, none⟩))) (HK : (Hid (∀ w1 : World, Below w0.heap.size w0 w1 → Calls Tryd.prog 32 #[.pointer (some ⟨sb, 0, none⟩), .int .i64 m] w1 fun e' w' => e' = .returned (.int .i64 k) ∧ Below w1.heap.size w1 w'))) (HP : (Hid (∀ w1 : World, Below w0.heap.size w0 w1 → Calls Tryd.prog 31 #[.pointer (some ⟨sb, 0, none⟩), .int .i64 m] w1 fun e' w' => e' = .returned (.int .i64 p) ∧ Below w1.heap.size w1 w'))) (HE : (Hid (∀ w1 : World, Below w0.heap.size w0 w1 → Calls Tryd.prog 30 #[.pointer (some ⟨sb, 0, none⟩), .int .i64 p] w1 fun e' w' => e' = .returned (.int .i64 e) ∧ Below w1.heap.size w1 w'))) (gk : (k == 3) = false) (gr : decide (e < x) = r)
    (hQ : ∀ (w : World) , (True) → Below w0.heap.size w0 w → Q .normal { tmps := #[c0, .int .i64 m, .pointer (some ⟨gb, 0, none⟩), c3, .int .i64 0, .int .i64 x, c6, c7, c8, c9, c10, .pointer (some ⟨gb, 0, none⟩), .pointer (some ⟨sb, 0, none⟩), .int .i64 m, .int .i64 k, .bool false, .bool false, .int .i64 x, .pointer (some ⟨gb, 0, none⟩), .pointer (some ⟨sb, 0, none⟩), .pointer (some ⟨gb, 0, none⟩), .pointer (some ⟨sb, 0, none⟩), .int .i64 m, .int .i64 p, .int .i64 e, .bool r, .bool r, c27], defers := [] } w) :
    Code.wp Tryd.prog ((Tryd.f90.body.bind (regionOf 2)).getD .skip) Q { tmps := #[c0, .int .i64 m, .pointer (some ⟨gb, 0, none⟩), c3, .int .i64 0, .int .i64 x, c6, c7, c8, c9, c10, x11, x12, x13, x14, x15, x16, x17, x18, x19, x20, x21, x22, x23, x24, x25, x26, c27], defers := [] } W := by
  conv => arg 2; whnf
  refine wp_region_inv (by kernel_rfl) (by kernel_rfl) (AfOnI w0 gb sb m x k p e r c0 c3 c6 c7 c8 c9 c10 c27) ?_ ?_ ?_
  · exact ⟨_, _, _, _, _, _, _, _, _, _, _, _, _, _, _, _, rfl, fun h => absurd h l0, fun h => absurd h l0, fun h => absurd h l0, fun h => absurd h l0, fun h => absurd h l0, fun h => absurd h l0, fun h => absurd h l0, fun h => absurd h l0, fun h => absurd h l0, fun h => absurd h l0, fun h => absurd h l0, fun h => absurd h l0, fun h => absurd h l0, fun h => absurd h l0, fun h => absurd h l0, fun h => absurd h l0, bdr hb0, C0⟩
  · intro i o listed A w hi ho hd hn hI
    unfold AfOnI at hI
    obtain ⟨s11, hI⟩ := hI
    obtain ⟨s12, hI⟩ := hI
    obtain ⟨s13, hI⟩ := hI
    obtain ⟨s14, hI⟩ := hI
    obtain ⟨s15, hI⟩ := hI
    obtain ⟨s16, hI⟩ := hI
    obtain ⟨s17, hI⟩ := hI
    obtain ⟨s18, hI⟩ := hI
    obtain ⟨s19, hI⟩ := hI
    obtain ⟨s20, hI⟩ := hI
    obtain ⟨s21, hI⟩ := hI
    obtain ⟨s22, hI⟩ := hI
    obtain ⟨s23, hI⟩ := hI
    obtain ⟨s24, hI⟩ := hI
    obtain ⟨s25, hI⟩ := hI
    obtain ⟨s26, hI⟩ := hI
    obtain ⟨rfl, hI⟩ := hI
    obtain ⟨F0, hI⟩ := hI
    obtain ⟨F1, hI⟩ := hI
    obtain ⟨F2, hI⟩ := hI
    obtain ⟨F3, hI⟩ := hI
    obtain ⟨F4, hI⟩ := hI
    obtain ⟨F5, hI⟩ := hI
    obtain ⟨F6, hI⟩ := hI
    obtain ⟨F7, hI⟩ := hI
    obtain ⟨F8, hI⟩ := hI
    obtain ⟨F9, hI⟩ := hI
    obtain ⟨F10, hI⟩ := hI
    obtain ⟨F11, hI⟩ := hI
    obtain ⟨F12, hI⟩ := hI
    obtain ⟨F13, hI⟩ := hI
    obtain ⟨F14, hI⟩ := hI
    obtain ⟨F15, hI⟩ := hI
    obtain ⟨F16, hI⟩ := hI
    have F17 := hI; clear hI
    have hi' : i < 16 := hi
    clear hi
    rcases (by omega : i = 0 ∨ i = 1 ∨ i = 2 ∨ i = 3 ∨ i = 4 ∨ i = 5 ∨ i = 6 ∨ i = 7 ∨ i = 8 ∨ i = 9 ∨ i = 10 ∨ i = 11 ∨ i = 12 ∨ i = 13 ∨ i = 14 ∨ i = 15) with rfl | rfl | rfl | rfl | rfl | rfl | rfl | rfl | rfl | rfl | rfl | rfl | rfl | rfl | rfl | rfl
    · simp only [List.getElem?_toArray, List.getElem?_cons_zero, Option.some.injEq] at ho
      subst ho
      refine wpOp_step rfl (fun K hK => ?_)
      go_simp
      refine hK _ _ ?_
      exact ⟨_, _, _, _, _, _, _, _, _, _, _, _, _, _, _, _, rfl, fun _ => rfl, lk F1, lk F2, lk F3, lk F4, lk F5, lk F6, lk F7, lk F8, lk F9, lk F10, lk F11, lk F12, lk F13, lk F14, lk F15, F16, F17⟩
    · simp only [List.getElem?_toArray, List.getElem?_cons_zero, List.getElem?_cons_succ, Option.some.injEq] at ho
      subst ho
      obtain rfl := F0 (hd ⟨0, .data⟩ (by simp) rfl)
      have h0 := F17
      refine wpOp_step rfl (fun K hK => ?_)
      go_simp
      refine hK _ _ ?_
      exact ⟨_, _, _, _, _, _, _, _, _, _, _, _, _, _, _, _, rfl, lk F0, fun _ => rfl, lk F2, lk F3, lk F4, lk F5, lk F6, lk F7, lk F8, lk F9, lk F10, lk F11, lk F12, lk F13, lk F14, lk F15, F16, F17⟩
    · simp only [List.getElem?_toArray, List.getElem?_cons_zero, List.getElem?_cons_succ, Option.some.injEq] at ho
      subst ho
      refine wpOp_step rfl (fun K hK => ?_)
      go_simp
      refine hK _ _ ?_
      exact ⟨_, _, _, _, _, _, _, _, _, _, _, _, _, _, _, _, rfl, lk F0, lk F1, fun _ => rfl, lk F3, lk F4, lk F5, lk F6, lk F7, lk F8, lk F9, lk F10, lk F11, lk F12, lk F13, lk F14, lk F15, F16, F17⟩
    · simp only [List.getElem?_toArray, List.getElem?_cons_zero, List.getElem?_cons_succ, Option.some.injEq] at ho
      subst ho
      obtain rfl := F1 (hd ⟨1, .data⟩ (by simp) rfl)
      obtain rfl := F2 (hd ⟨2, .data⟩ (by simp) rfl)
      refine wpOp_step rfl (fun K hK => ?_)
      go_simp
      go_at_call 32
      refine (HK.out _ (by exact F16)).mono ?_
      rintro e' w' ⟨rfl, hb⟩
      refine hK _ _ ?_
      exact ⟨_, _, _, _, _, _, _, _, _, _, _, _, _, _, _, _, rfl, lk F0, lk F1, lk F2, fun _ => rfl, lk F4, lk F5, lk F6, lk F7, lk F8, lk F9, lk F10, lk F11, lk F12, lk F13, lk F14, lk F15, bt F16 hb, cell_call F17 hb⟩
    · simp only [List.getElem?_toArray, List.getElem?_cons_zero, List.getElem?_cons_succ, Option.some.injEq] at ho
      subst ho
      obtain rfl := F3 (hd ⟨3, .data⟩ (by simp) rfl)
      refine wpOp_step rfl (fun K hK => ?_)
      go_simp
      refine hK _ _ ?_
      exact ⟨_, _, _, _, _, _, _, _, _, _, _, _, _, _, _, _, rfl, lk F0, lk F1, lk F2, lk F3, fun _ => rfl, lk F5, lk F6, lk F7, lk F8, lk F9, lk F10, lk F11, lk F12, lk F13, lk F14, lk F15, F16, F17⟩
    · simp only [List.getElem?_toArray, List.getElem?_cons_zero, List.getElem?_cons_succ, Option.some.injEq] at ho
      subst ho
      obtain rfl := F4 (hd ⟨4, .data⟩ (by simp) rfl)
      refine wpOp_step rfl (fun K hK => ?_)
      go_simp
      refine hK _ _ ?_
      exact ⟨_, _, _, _, _, _, _, _, _, _, _, _, _, _, _, _, rfl, lk F0, lk F1, lk F2, lk F3, lk F4, fun _ => rfl, lk F6, lk F7, lk F8, lk F9, lk F10, lk F11, lk F12, lk F13, lk F14, lk F15, F16, F17⟩
    · simp only [List.getElem?_toArray, List.getElem?_cons_zero, List.getElem?_cons_succ, Option.some.injEq] at ho
      subst ho
      obtain rfl := F5 (hd ⟨5, .guard⟩ (by simp) rfl)
      refine wpOp_step rfl (fun K hK => ?_)
      go_simp
      refine hK _ _ ?_
      exact ⟨_, _, _, _, _, _, _, _, _, _, _, _, _, _, _, _, rfl, lk F0, lk F1, lk F2, lk F3, lk F4, lk F5, fun _ => rfl, lk F7, lk F8, lk F9, lk F10, lk F11, lk F12, lk F13, lk F14, lk F15, F16, F17⟩
    · simp only [List.getElem?_toArray, List.getElem?_cons_zero, List.getElem?_cons_succ, Option.some.injEq] at ho
      subst ho
      obtain rfl := F5 (hd ⟨5, .guard⟩ (by simp) rfl)
      refine wpOp_step rfl (fun K hK => ?_)
      go_simp
      refine hK _ _ ?_
      exact ⟨_, _, _, _, _, _, _, _, _, _, _, _, _, _, _, _, rfl, lk F0, lk F1, lk F2, lk F3, lk F4, lk F5, lk F6, fun _ => rfl, lk F8, lk F9, lk F10, lk F11, lk F12, lk F13, lk F14, lk F15, F16, F17⟩
    · simp only [List.getElem?_toArray, List.getElem?_cons_zero, List.getElem?_cons_succ, Option.some.injEq] at ho
      subst ho
      obtain rfl := F7 (hd ⟨7, .data⟩ (by simp) rfl)
      obtain rfl := F5 (hd ⟨5, .guard⟩ (by simp) rfl)
      have h0 := F17
      refine wpOp_step rfl (fun K hK => ?_)
      go_simp
      refine hK _ _ ?_
      exact ⟨_, _, _, _, _, _, _, _, _, _, _, _, _, _, _, _, rfl, lk F0, lk F1, lk F2, lk F3, lk F4, lk F5, lk F6, lk F7, fun _ => rfl, lk F9, lk F10, lk F11, lk F12, lk F13, lk F14, lk F15, F16, F17⟩
    · simp only [List.getElem?_toArray, List.getElem?_cons_zero, List.getElem?_cons_succ, Option.some.injEq] at ho
      subst ho
      obtain rfl := F5 (hd ⟨5, .guard⟩ (by simp) rfl)
      refine wpOp_step rfl (fun K hK => ?_)
      go_simp
      refine hK _ _ ?_
      exact ⟨_, _, _, _, _, _, _, _, _, _, _, _, _, _, _, _, rfl, lk F0, lk F1, lk F2, lk F3, lk F4, lk F5, lk F6, lk F7, lk F8, fun _ => rfl, lk F10, lk F11, lk F12, lk F13, lk F14, lk F15, F16, F17⟩
    · simp only [List.getElem?_toArray, List.getElem?_cons_zero, List.getElem?_cons_succ, Option.some.injEq] at ho
      subst ho
      obtain rfl := F9 (hd ⟨9, .data⟩ (by simp) rfl)
      obtain rfl := F5 (hd ⟨5, .guard⟩ (by simp) rfl)
      have h0 := F17
      refine wpOp_step rfl (fun K hK => ?_)
      go_simp
      refine hK _ _ ?_
      exact ⟨_, _, _, _, _, _, _, _, _, _, _, _, _, _, _, _, rfl, lk F0, lk F1, lk F2, lk F3, lk F4, lk F5, lk F6, lk F7, lk F8, lk F9, fun _ => rfl, lk F11, lk F12, lk F13, lk F14, lk F15, F16, F17⟩
    · simp only [List.getElem?_toArray, List.getElem?_cons_zero, List.getElem?_cons_succ, Option.some.injEq] at ho
      subst ho
      obtain rfl := F5 (hd ⟨5, .guard⟩ (by simp) rfl)
      refine wpOp_step rfl (fun K hK => ?_)
      go_simp
      refine hK _ _ ?_
      exact ⟨_, _, _, _, _, _, _, _, _, _, _, _, _, _, _, _, rfl, lk F0, lk F1, lk F2, lk F3, lk F4, lk F5, lk F6, lk F7, lk F8, lk F9, lk F10, fun _ => rfl, lk F12, lk F13, lk F14, lk F15, F16, F17⟩
    · simp only [List.getElem?_toArray, List.getElem?_cons_zero, List.getElem?_cons_succ, Option.some.injEq] at ho
      subst ho
      obtain rfl := F10 (hd ⟨10, .data⟩ (by simp) rfl)
      obtain rfl := F11 (hd ⟨11, .data⟩ (by simp) rfl)
      obtain rfl := F5 (hd ⟨5, .guard⟩ (by simp) rfl)
      refine wpOp_step rfl (fun K hK => ?_)
      go_simp
      go_at_call 31
      refine (HP.out _ (by exact F16)).mono ?_
      rintro e' w' ⟨rfl, hb⟩
      refine hK _ _ ?_
      exact ⟨_, _, _, _, _, _, _, _, _, _, _, _, _, _, _, _, rfl, lk F0, lk F1, lk F2, lk F3, lk F4, lk F5, lk F6, lk F7, lk F8, lk F9, lk F10, lk F11, fun _ => rfl, lk F13, lk F14, lk F15, bt F16 hb, cell_call F17 hb⟩
    · simp only [List.getElem?_toArray, List.getElem?_cons_zero, List.getElem?_cons_succ, Option.some.injEq] at ho
      subst ho
      obtain rfl := F8 (hd ⟨8, .data⟩ (by simp) rfl)
      obtain rfl := F12 (hd ⟨12, .data⟩ (by simp) rfl)
      obtain rfl := F5 (hd ⟨5, .guard⟩ (by simp) rfl)
      refine wpOp_step rfl (fun K hK => ?_)
      go_simp
      go_at_call 30
      refine (HE.out _ (by exact F16)).mono ?_
      rintro e' w' ⟨rfl, hb⟩
      refine hK _ _ ?_
      exact ⟨_, _, _, _, _, _, _, _, _, _, _, _, _, _, _, _, rfl, lk F0, lk F1, lk F2, lk F3, lk F4, lk F5, lk F6, lk F7, lk F8, lk F9, lk F10, lk F11, lk F12, fun _ => rfl, lk F14, lk F15, bt F16 hb, cell_call F17 hb⟩
    · simp only [List.getElem?_toArray, List.getElem?_cons_zero, List.getElem?_cons_succ, Option.some.injEq] at ho
      subst ho
      obtain rfl := F6 (hd ⟨6, .data⟩ (by simp) rfl)
      obtain rfl := F13 (hd ⟨13, .data⟩ (by simp) rfl)
      obtain rfl := F5 (hd ⟨5, .guard⟩ (by simp) rfl)
      refine wpOp_step rfl (fun K hK => ?_)
      go_simp
      refine hK _ _ ?_
      exact ⟨_, _, _, _, _, _, _, _, _, _, _, _, _, _, _, _, rfl, lk F0, lk F1, lk F2, lk F3, lk F4, lk F5, lk F6, lk F7, lk F8, lk F9, lk F10, lk F11, lk F12, lk F13, fun _ => rfl, lk F15, F16, F17⟩
    · simp only [List.getElem?_toArray, List.getElem?_cons_zero, List.getElem?_cons_succ, Option.some.injEq] at ho
      subst ho
      obtain rfl := F5 (hd ⟨5, .data⟩ (by simp) rfl)
      obtain rfl := F14 (hd ⟨14, .data⟩ (by simp) rfl)
      refine wpOp_step rfl (fun K hK => ?_)
      go_simp
      refine hK _ _ ?_
      exact ⟨_, _, _, _, _, _, _, _, _, _, _, _, _, _, _, _, rfl, lk F0, lk F1, lk F2, lk F3, lk F4, lk F5, lk F6, lk F7, lk F8, lk F9, lk F10, lk F11, lk F12, lk F13, lk F14, fun _ => rfl, F16, F17⟩
  · intro listed A w hall hI
    unfold AfOnI at hI
    obtain ⟨s11, hI⟩ := hI
    obtain ⟨s12, hI⟩ := hI
    obtain ⟨s13, hI⟩ := hI
    obtain ⟨s14, hI⟩ := hI
    obtain ⟨s15, hI⟩ := hI
    obtain ⟨s16, hI⟩ := hI
    obtain ⟨s17, hI⟩ := hI
    obtain ⟨s18, hI⟩ := hI
    obtain ⟨s19, hI⟩ := hI
    obtain ⟨s20, hI⟩ := hI
    obtain ⟨s21, hI⟩ := hI
    obtain ⟨s22, hI⟩ := hI
    obtain ⟨s23, hI⟩ := hI
    obtain ⟨s24, hI⟩ := hI
    obtain ⟨s25, hI⟩ := hI
    obtain ⟨s26, hI⟩ := hI
    obtain ⟨rfl, hI⟩ := hI
    obtain ⟨F0, hI⟩ := hI
    obtain ⟨F1, hI⟩ := hI
    obtain ⟨F2, hI⟩ := hI
    obtain ⟨F3, hI⟩ := hI
    obtain ⟨F4, hI⟩ := hI
    obtain ⟨F5, hI⟩ := hI
    obtain ⟨F6, hI⟩ := hI
    obtain ⟨F7, hI⟩ := hI
    obtain ⟨F8, hI⟩ := hI
    obtain ⟨F9, hI⟩ := hI
    obtain ⟨F10, hI⟩ := hI
    obtain ⟨F11, hI⟩ := hI
    obtain ⟨F12, hI⟩ := hI
    obtain ⟨F13, hI⟩ := hI
    obtain ⟨F14, hI⟩ := hI
    obtain ⟨F15, hI⟩ := hI
    obtain ⟨F16, hI⟩ := hI
    have F17 := hI; clear hI
    obtain rfl := F0 (hall 0 (by decide))
    obtain rfl := F1 (hall 1 (by decide))
    obtain rfl := F2 (hall 2 (by decide))
    obtain rfl := F3 (hall 3 (by decide))
    obtain rfl := F4 (hall 4 (by decide))
    obtain rfl := F5 (hall 5 (by decide))
    obtain rfl := F6 (hall 6 (by decide))
    obtain rfl := F7 (hall 7 (by decide))
    obtain rfl := F8 (hall 8 (by decide))
    obtain rfl := F9 (hall 9 (by decide))
    obtain rfl := F10 (hall 10 (by decide))
    obtain rfl := F11 (hall 11 (by decide))
    obtain rfl := F12 (hall 12 (by decide))
    obtain rfl := F13 (hall 13 (by decide))
    obtain rfl := F14 (hall 14 (by decide))
    obtain rfl := F15 (hall 15 (by decide))
    have HB := F16
    have Q0 := F17
    exact hQ _ trivial HB
def AfOffI (w0 : World) (gb sb : Nat) (m x _k _p _e : Int) (_r : Bool) (c0 c3 c6 c7 c8 c9 c10 c27 : Value) (listed : Array Bool) (A : Act) (w : World) : Prop := ∃ (s11 s12 s13 s14 s15 s16 s17 s18 s19 s20 s21 s22 s23 s24 s25 s26 : Value), A = { tmps := #[c0, .int .i64 m, .pointer (some ⟨gb, 0, none⟩), c3, .int .i64 0, .int .i64 x, c6, c7, c8, c9, c10, s11, s12, s13, s14, s15, s16, s17, s18, s19, s20, s21, s22, s23, s24, s25, s26, c27], defers := [] } ∧
  (listed.getD 0 false = true → s11 = .pointer (some ⟨gb, 0, none⟩)) ∧
  (listed.getD 1 false = true → s12 = .pointer (some ⟨sb, 0, none⟩)) ∧
  (listed.getD 2 false = true → s13 = .int .i64 m) ∧
  (listed.getD 3 false = true → s14 = .int .i64 3) ∧
  (listed.getD 4 false = true → s15 = .bool true) ∧
  (listed.getD 5 false = true → s16 = .bool true) ∧
  (listed.getD 6 false = true → s17 = undef) ∧
  (listed.getD 7 false = true → s18 = undef) ∧
  (listed.getD 8 false = true → s19 = undef) ∧
  (listed.getD 9 false = true → s20 = undef) ∧
  (listed.getD 10 false = true → s21 = undef) ∧
  (listed.getD 11 false = true → s22 = undef) ∧
  (listed.getD 12 false = true → s23 = undef) ∧
  (listed.getD 13 false = true → s24 = undef) ∧
  (listed.getD 14 false = true → s25 = undef) ∧
  (listed.getD 15 false = true → s26 = .bool true) ∧
  Below w0.heap.size w0 w ∧
  w.cell? ⟨gb, 0, none⟩ = some (.pointer (some ⟨sb, 0, none⟩))
set_option maxRecDepth 100000 in
set_option maxHeartbeats 16000000 in
theorem AfOff_region (gb sb : Nat) (m x k p e : Int) (r : Bool) (x11 x12 x13 x14 x15 x16 x17 x18 x19 x20 x21 x22 x23 x24 x25 x26 : Value) (c0 c3 c6 c7 c8 c9 c10 c27 : Value) (w0 W : World) (Q : Exit → Act → World → Prop) (hb0 : Below w0.heap.size w0 W) (C0 : W.cell? ⟨gb, 0, none⟩ = some (.pointer (some ⟨sb, 0, none⟩))) (HK : (Hid (∀ w1 : World, Below w0.heap.size w0 w1 → Calls Tryd.prog 32 #[.pointer (some ⟨sb, 0, none⟩), .int .i64 m] w1 fun e' w' => e' = .returned (.int .i64 3) ∧ Below w1.heap.size w1 w')))
    (hQ : ∀ (w : World) , (True) → Below w0.heap.size w0 w → Q .normal { tmps := #[c0, .int .i64 m, .pointer (some ⟨gb, 0, none⟩), c3, .int .i64 0, .int .i64 x, c6, c7, c8, c9, c10, .pointer (some ⟨gb, 0, none⟩), .pointer (some ⟨sb, 0, none⟩), .int .i64 m, .int .i64 3, .bool true, .bool true, undef, undef, undef, undef, undef, undef, undef, undef, undef, .bool true, c27], defers := [] } w) :
    Code.wp Tryd.prog ((Tryd.f90.body.bind (regionOf 2)).getD .skip) Q { tmps := #[c0, .int .i64 m, .pointer (some ⟨gb, 0, none⟩), c3, .int .i64 0, .int .i64 x, c6, c7, c8, c9, c10, x11, x12, x13, x14, x15, x16, x17, x18, x19, x20, x21, x22, x23, x24, x25, x26, c27], defers := [] } W := by
  conv => arg 2; whnf
  refine wp_region_inv (by kernel_rfl) (by kernel_rfl) (AfOffI w0 gb sb m x k p e r c0 c3 c6 c7 c8 c9 c10 c27) ?_ ?_ ?_
  · exact ⟨_, _, _, _, _, _, _, _, _, _, _, _, _, _, _, _, rfl, fun h => absurd h l0, fun h => absurd h l0, fun h => absurd h l0, fun h => absurd h l0, fun h => absurd h l0, fun h => absurd h l0, fun h => absurd h l0, fun h => absurd h l0, fun h => absurd h l0, fun h => absurd h l0, fun h => absurd h l0, fun h => absurd h l0, fun h => absurd h l0, fun h => absurd h l0, fun h => absurd h l0, fun h => absurd h l0, bdr hb0, C0⟩
  · intro i o listed A w hi ho hd hn hI
    unfold AfOffI at hI
    obtain ⟨s11, hI⟩ := hI
    obtain ⟨s12, hI⟩ := hI
    obtain ⟨s13, hI⟩ := hI
    obtain ⟨s14, hI⟩ := hI
    obtain ⟨s15, hI⟩ := hI
    obtain ⟨s16, hI⟩ := hI
    obtain ⟨s17, hI⟩ := hI
    obtain ⟨s18, hI⟩ := hI
    obtain ⟨s19, hI⟩ := hI
    obtain ⟨s20, hI⟩ := hI
    obtain ⟨s21, hI⟩ := hI
    obtain ⟨s22, hI⟩ := hI
    obtain ⟨s23, hI⟩ := hI
    obtain ⟨s24, hI⟩ := hI
    obtain ⟨s25, hI⟩ := hI
    obtain ⟨s26, hI⟩ := hI
    obtain ⟨rfl, hI⟩ := hI
    obtain ⟨F0, hI⟩ := hI
    obtain ⟨F1, hI⟩ := hI
    obtain ⟨F2, hI⟩ := hI
    obtain ⟨F3, hI⟩ := hI
    obtain ⟨F4, hI⟩ := hI
    obtain ⟨F5, hI⟩ := hI
    obtain ⟨F6, hI⟩ := hI
    obtain ⟨F7, hI⟩ := hI
    obtain ⟨F8, hI⟩ := hI
    obtain ⟨F9, hI⟩ := hI
    obtain ⟨F10, hI⟩ := hI
    obtain ⟨F11, hI⟩ := hI
    obtain ⟨F12, hI⟩ := hI
    obtain ⟨F13, hI⟩ := hI
    obtain ⟨F14, hI⟩ := hI
    obtain ⟨F15, hI⟩ := hI
    obtain ⟨F16, hI⟩ := hI
    have F17 := hI; clear hI
    have hi' : i < 16 := hi
    clear hi
    rcases (by omega : i = 0 ∨ i = 1 ∨ i = 2 ∨ i = 3 ∨ i = 4 ∨ i = 5 ∨ i = 6 ∨ i = 7 ∨ i = 8 ∨ i = 9 ∨ i = 10 ∨ i = 11 ∨ i = 12 ∨ i = 13 ∨ i = 14 ∨ i = 15) with rfl | rfl | rfl | rfl | rfl | rfl | rfl | rfl | rfl | rfl | rfl | rfl | rfl | rfl | rfl | rfl
    · simp only [List.getElem?_toArray, List.getElem?_cons_zero, Option.some.injEq] at ho
      subst ho
      refine wpOp_step rfl (fun K hK => ?_)
      go_simp
      refine hK _ _ ?_
      exact ⟨_, _, _, _, _, _, _, _, _, _, _, _, _, _, _, _, rfl, fun _ => rfl, lk F1, lk F2, lk F3, lk F4, lk F5, lk F6, lk F7, lk F8, lk F9, lk F10, lk F11, lk F12, lk F13, lk F14, lk F15, F16, F17⟩
    · simp only [List.getElem?_toArray, List.getElem?_cons_zero, List.getElem?_cons_succ, Option.some.injEq] at ho
      subst ho
      obtain rfl := F0 (hd ⟨0, .data⟩ (by simp) rfl)
      have h0 := F17
      refine wpOp_step rfl (fun K hK => ?_)
      go_simp
      refine hK _ _ ?_
      exact ⟨_, _, _, _, _, _, _, _, _, _, _, _, _, _, _, _, rfl, lk F0, fun _ => rfl, lk F2, lk F3, lk F4, lk F5, lk F6, lk F7, lk F8, lk F9, lk F10, lk F11, lk F12, lk F13, lk F14, lk F15, F16, F17⟩
    · simp only [List.getElem?_toArray, List.getElem?_cons_zero, List.getElem?_cons_succ, Option.some.injEq] at ho
      subst ho
      refine wpOp_step rfl (fun K hK => ?_)
      go_simp
      refine hK _ _ ?_
      exact ⟨_, _, _, _, _, _, _, _, _, _, _, _, _, _, _, _, rfl, lk F0, lk F1, fun _ => rfl, lk F3, lk F4, lk F5, lk F6, lk F7, lk F8, lk F9, lk F10, lk F11, lk F12, lk F13, lk F14, lk F15, F16, F17⟩
    · simp only [List.getElem?_toArray, List.getElem?_cons_zero, List.getElem?_cons_succ, Option.some.injEq] at ho
      subst ho
      obtain rfl := F1 (hd ⟨1, .data⟩ (by simp) rfl)
      obtain rfl := F2 (hd ⟨2, .data⟩ (by simp) rfl)
      refine wpOp_step rfl (fun K hK => ?_)
      go_simp
      go_at_call 32
      refine (HK.out _ (by exact F16)).mono ?_
      rintro e' w' ⟨rfl, hb⟩
      refine hK _ _ ?_
      exact ⟨_, _, _, _, _, _, _, _, _, _, _, _, _, _, _, _, rfl, lk F0, lk F1, lk F2, fun _ => rfl, lk F4, lk F5, lk F6, lk F7, lk F8, lk F9, lk F10, lk F11, lk F12, lk F13, lk F14, lk F15, bt F16 hb, cell_call F17 hb⟩
    · simp only [List.getElem?_toArray, List.getElem?_cons_zero, List.getElem?_cons_succ, Option.some.injEq] at ho
      subst ho
      obtain rfl := F3 (hd ⟨3, .data⟩ (by simp) rfl)
      refine wpOp_step rfl (fun K hK => ?_)
      go_simp
      refine hK _ _ ?_
      exact ⟨_, _, _, _, _, _, _, _, _, _, _, _, _, _, _, _, rfl, lk F0, lk F1, lk F2, lk F3, fun _ => rfl, lk F5, lk F6, lk F7, lk F8, lk F9, lk F10, lk F11, lk F12, lk F13, lk F14, lk F15, F16, F17⟩
    · simp only [List.getElem?_toArray, List.getElem?_cons_zero, List.getElem?_cons_succ, Option.some.injEq] at ho
      subst ho
      obtain rfl := F4 (hd ⟨4, .data⟩ (by simp) rfl)
      refine wpOp_step rfl (fun K hK => ?_)
      go_simp
      refine hK _ _ ?_
      exact ⟨_, _, _, _, _, _, _, _, _, _, _, _, _, _, _, _, rfl, lk F0, lk F1, lk F2, lk F3, lk F4, fun _ => rfl, lk F6, lk F7, lk F8, lk F9, lk F10, lk F11, lk F12, lk F13, lk F14, lk F15, F16, F17⟩
    · simp only [List.getElem?_toArray, List.getElem?_cons_zero, List.getElem?_cons_succ, Option.some.injEq] at ho
      subst ho
      obtain rfl := F5 (hd ⟨5, .guard⟩ (by simp) rfl)
      refine wpOp_step rfl (fun K hK => ?_)
      go_simp
      refine hK _ _ ?_
      exact ⟨_, _, _, _, _, _, _, _, _, _, _, _, _, _, _, _, rfl, lk F0, lk F1, lk F2, lk F3, lk F4, lk F5, fun _ => rfl, lk F7, lk F8, lk F9, lk F10, lk F11, lk F12, lk F13, lk F14, lk F15, F16, F17⟩
    · simp only [List.getElem?_toArray, List.getElem?_cons_zero, List.getElem?_cons_succ, Option.some.injEq] at ho
      subst ho
      obtain rfl := F5 (hd ⟨5, .guard⟩ (by simp) rfl)
      refine wpOp_step rfl (fun K hK => ?_)
      go_simp
      refine hK _ _ ?_
      exact ⟨_, _, _, _, _, _, _, _, _, _, _, _, _, _, _, _, rfl, lk F0, lk F1, lk F2, lk F3, lk F4, lk F5, lk F6, fun _ => rfl, lk F8, lk F9, lk F10, lk F11, lk F12, lk F13, lk F14, lk F15, F16, F17⟩
    · simp only [List.getElem?_toArray, List.getElem?_cons_zero, List.getElem?_cons_succ, Option.some.injEq] at ho
      subst ho
      obtain rfl := F7 (hd ⟨7, .data⟩ (by simp) rfl)
      obtain rfl := F5 (hd ⟨5, .guard⟩ (by simp) rfl)
      refine wpOp_step rfl (fun K hK => ?_)
      go_simp
      refine hK _ _ ?_
      exact ⟨_, _, _, _, _, _, _, _, _, _, _, _, _, _, _, _, rfl, lk F0, lk F1, lk F2, lk F3, lk F4, lk F5, lk F6, lk F7, fun _ => rfl, lk F9, lk F10, lk F11, lk F12, lk F13, lk F14, lk F15, F16, F17⟩
    · simp only [List.getElem?_toArray, List.getElem?_cons_zero, List.getElem?_cons_succ, Option.some.injEq] at ho
      subst ho
      obtain rfl := F5 (hd ⟨5, .guard⟩ (by simp) rfl)
      refine wpOp_step rfl (fun K hK => ?_)
      go_simp
      refine hK _ _ ?_
      exact ⟨_, _, _, _, _, _, _, _, _, _, _, _, _, _, _, _, rfl, lk F0, lk F1, lk F2, lk F3, lk F4, lk F5, lk F6, lk F7, lk F8, fun _ => rfl, lk F10, lk F11, lk F12, lk F13, lk F14, lk F15, F16, F17⟩
    · simp only [List.getElem?_toArray, List.getElem?_cons_zero, List.getElem?_cons_succ, Option.some.injEq] at ho
      subst ho
      obtain rfl := F9 (hd ⟨9, .data⟩ (by simp) rfl)
      obtain rfl := F5 (hd ⟨5, .guard⟩ (by simp) rfl)
      refine wpOp_step rfl (fun K hK => ?_)
      go_simp
      refine hK _ _ ?_
      exact ⟨_, _, _, _, _, _, _, _, _, _, _, _, _, _, _, _, rfl, lk F0, lk F1, lk F2, lk F3, lk F4, lk F5, lk F6, lk F7, lk F8, lk F9, fun _ => rfl, lk F11, lk F12, lk F13, lk F14, lk F15, F16, F17⟩
    · simp only [List.getElem?_toArray, List.getElem?_cons_zero, List.getElem?_cons_succ, Option.some.injEq] at ho
      subst ho
      obtain rfl := F5 (hd ⟨5, .guard⟩ (by simp) rfl)
      refine wpOp_step rfl (fun K hK => ?_)
      go_simp
      refine hK _ _ ?_
      exact ⟨_, _, _, _, _, _, _, _, _, _, _, _, _, _, _, _, rfl, lk F0, lk F1, lk F2, lk F3, lk F4, lk F5, lk F6, lk F7, lk F8, lk F9, lk F10, fun _ => rfl, lk F12, lk F13, lk F14, lk F15, F16, F17⟩
    · simp only [List.getElem?_toArray, List.getElem?_cons_zero, List.getElem?_cons_succ, Option.some.injEq] at ho
      subst ho
      obtain rfl := F10 (hd ⟨10, .data⟩ (by simp) rfl)
      obtain rfl := F11 (hd ⟨11, .data⟩ (by simp) rfl)
      obtain rfl := F5 (hd ⟨5, .guard⟩ (by simp) rfl)
      refine wpOp_step rfl (fun K hK => ?_)
      go_simp
      refine hK _ _ ?_
      exact ⟨_, _, _, _, _, _, _, _, _, _, _, _, _, _, _, _, rfl, lk F0, lk F1, lk F2, lk F3, lk F4, lk F5, lk F6, lk F7, lk F8, lk F9, lk F10, lk F11, fun _ => rfl, lk F13, lk F14, lk F15, F16, F17⟩
    · simp only [List.getElem?_toArray, List.getElem?_cons_zero, List.getElem?_cons_succ, Option.some.injEq] at ho
      subst ho
      obtain rfl := F8 (hd ⟨8, .data⟩ (by simp) rfl)
      obtain rfl := F12 (hd ⟨12, .data⟩ (by simp) rfl)
      obtain rfl := F5 (hd ⟨5, .guard⟩ (by simp) rfl)
      refine wpOp_step rfl (fun K hK => ?_)
      go_simp
      refine hK _ _ ?_
      exact ⟨_, _, _, _, _, _, _, _, _, _, _, _, _, _, _, _, rfl, lk F0, lk F1, lk F2, lk F3, lk F4, lk F5, lk F6, lk F7, lk F8, lk F9, lk F10, lk F11, lk F12, fun _ => rfl, lk F14, lk F15, F16, F17⟩
    · simp only [List.getElem?_toArray, List.getElem?_cons_zero, List.getElem?_cons_succ, Option.some.injEq] at ho
      subst ho
      obtain rfl := F6 (hd ⟨6, .data⟩ (by simp) rfl)
      obtain rfl := F13 (hd ⟨13, .data⟩ (by simp) rfl)
      obtain rfl := F5 (hd ⟨5, .guard⟩ (by simp) rfl)
      refine wpOp_step rfl (fun K hK => ?_)
      go_simp
      refine hK _ _ ?_
      exact ⟨_, _, _, _, _, _, _, _, _, _, _, _, _, _, _, _, rfl, lk F0, lk F1, lk F2, lk F3, lk F4, lk F5, lk F6, lk F7, lk F8, lk F9, lk F10, lk F11, lk F12, lk F13, fun _ => rfl, lk F15, F16, F17⟩
    · simp only [List.getElem?_toArray, List.getElem?_cons_zero, List.getElem?_cons_succ, Option.some.injEq] at ho
      subst ho
      obtain rfl := F5 (hd ⟨5, .data⟩ (by simp) rfl)
      obtain rfl := F14 (hd ⟨14, .data⟩ (by simp) rfl)
      refine wpOp_step rfl (fun K hK => ?_)
      go_simp
      refine hK _ _ ?_
      exact ⟨_, _, _, _, _, _, _, _, _, _, _, _, _, _, _, _, rfl, lk F0, lk F1, lk F2, lk F3, lk F4, lk F5, lk F6, lk F7, lk F8, lk F9, lk F10, lk F11, lk F12, lk F13, lk F14, fun _ => rfl, F16, F17⟩
  · intro listed A w hall hI
    unfold AfOffI at hI
    obtain ⟨s11, hI⟩ := hI
    obtain ⟨s12, hI⟩ := hI
    obtain ⟨s13, hI⟩ := hI
    obtain ⟨s14, hI⟩ := hI
    obtain ⟨s15, hI⟩ := hI
    obtain ⟨s16, hI⟩ := hI
    obtain ⟨s17, hI⟩ := hI
    obtain ⟨s18, hI⟩ := hI
    obtain ⟨s19, hI⟩ := hI
    obtain ⟨s20, hI⟩ := hI
    obtain ⟨s21, hI⟩ := hI
    obtain ⟨s22, hI⟩ := hI
    obtain ⟨s23, hI⟩ := hI
    obtain ⟨s24, hI⟩ := hI
    obtain ⟨s25, hI⟩ := hI
    obtain ⟨s26, hI⟩ := hI
    obtain ⟨rfl, hI⟩ := hI
    obtain ⟨F0, hI⟩ := hI
    obtain ⟨F1, hI⟩ := hI
    obtain ⟨F2, hI⟩ := hI
    obtain ⟨F3, hI⟩ := hI
    obtain ⟨F4, hI⟩ := hI
    obtain ⟨F5, hI⟩ := hI
    obtain ⟨F6, hI⟩ := hI
    obtain ⟨F7, hI⟩ := hI
    obtain ⟨F8, hI⟩ := hI
    obtain ⟨F9, hI⟩ := hI
    obtain ⟨F10, hI⟩ := hI
    obtain ⟨F11, hI⟩ := hI
    obtain ⟨F12, hI⟩ := hI
    obtain ⟨F13, hI⟩ := hI
    obtain ⟨F14, hI⟩ := hI
    obtain ⟨F15, hI⟩ := hI
    obtain ⟨F16, hI⟩ := hI
    have F17 := hI; clear hI
    obtain rfl := F0 (hall 0 (by decide))
    obtain rfl := F1 (hall 1 (by decide))
    obtain rfl := F2 (hall 2 (by decide))
    obtain rfl := F3 (hall 3 (by decide))
    obtain rfl := F4 (hall 4 (by decide))
    obtain rfl := F5 (hall 5 (by decide))
    obtain rfl := F6 (hall 6 (by decide))
    obtain rfl := F7 (hall 7 (by decide))
    obtain rfl := F8 (hall 8 (by decide))
    obtain rfl := F9 (hall 9 (by decide))
    obtain rfl := F10 (hall 10 (by decide))
    obtain rfl := F11 (hall 11 (by decide))
    obtain rfl := F12 (hall 12 (by decide))
    obtain rfl := F13 (hall 13 (by decide))
    obtain rfl := F14 (hall 14 (by decide))
    obtain rfl := F15 (hall 15 (by decide))
    have HB := F16
    have Q0 := F17
    exact hQ _ trivial HB
end Go.Proofs.YtcmlfkoeajpliaaDoor
namespace Go.Proofs.YtcmlfkoeajpliaaDoor
open Go.RowKit Go.Lib
set_option maxRecDepth 100000
set_option maxHeartbeats 8000000
theorem after_any {sb lim : Nat} {A : Option Addr} {c : Nat} {L : List En} {w : World} (hS : StoreAt w sb lim A c L) (hL : L.length ≤ 1048576) (hO : Ord L.length (kdN L) (prN L) (enN L)) (n m : Nat) :
    Calls Tryd.prog 90 #[.agg #[.pointer (some ⟨sb, 0, none⟩), .int .i64 (n : Int)], .int .i64 (m : Int)] w fun e' w' => e' = .returned (.int .i64 (afterF (kdN L) (prN L) (enN L) m : Int)) ∧ Below w.heap.size w w' := by
  have HK := Lib.hid (fun (w1 : World) (hb1 : Below w.heap.size w w1) => kindC (hS.below hb1) hL m)
  have HP := Lib.hid (fun (w1 : World) (hb1 : Below w.heap.size w w1) => parC (hS.below hb1) hL m)
  have HE := Lib.hid (fun (w1 : World) (hb1 : Below w.heap.size w w1) => endC (hS.below hb1) hL (prN L m))
  have HM := Lib.hid (fun (w1 : World) (hb1 : Below w.heap.size w w1) => endC (hS.below hb1) hL m)
  have hxl := en_le hO m
  have hel := en_le hO (prN L m)
  have HR : Hid (afterF (kdN L) (prN L) (enN L) m = if kdN L m = 3 ∨ enN L (prN L m) < enN L m + 1 then 0 else enN L m + 1) := Lib.hid rfl
  obtain ⟨r, hr⟩ : ∃ r, afterF (kdN L) (prN L) (enN L) m = r := ⟨_, rfl⟩
  obtain ⟨k, hk⟩ : ∃ k, kdN L m = k := ⟨_, rfl⟩
  obtain ⟨p, hp⟩ : ∃ p, prN L m = p := ⟨_, rfl⟩
  obtain ⟨e, he⟩ : ∃ e, enN L p = e := ⟨_, rfl⟩
  obtain ⟨x, hx⟩ : ∃ x, enN L m = x := ⟨_, rfl⟩
  rw [hr, hk, hp, he, hx] at HR
  rw [hk] at HK
  rw [hp] at HP HE hel
  rw [he] at HE hel
  rw [hx] at HM hxl
  rw [hr]
  clear hS hO hr hk hp he hx
  go_enter Tryd.func90, Tryd.ntmps90
  go_wp2_with fail
  refine (HM.out _ (ba (Below.refl _ _))).mono ?_
  rintro e' w3 ⟨rfl, hb3⟩
  have B3 : Below w.heap.size w w3 := bt (ba (Below.refl _ _)) hb3
  have d0 := (hb3.cell (p := ⟨w.heap.size, 0, none⟩) (by show w.heap.size < _; simp)).trans (show _ = some (Value.pointer (some ⟨sb, 0, none⟩)) by simp)
  clear hb3
  go_upto_region 2 with fail
  by_cases h3 : k = 3
  · subst h3
    rw [if_pos (.inl rfl)] at HR
    refine AfOff_region w.heap.size sb m ((x : Int) + 1) 0 0 0 false _ _ _ _ _ _ _ _ _ _ _ _ _ _ _ _ _ _ _ _ _ _ _ _ w _ _ B3 d0 HK ?_
    rintro w5 - B5
    have h0 := HR.out
    subst h0
    go_wp2
    go_ret
    exact ⟨rfl, B5⟩
  · obtain ⟨b, hb⟩ : ∃ b, decide ((e : Int) < (x : Int) + 1) = b := ⟨_, rfl⟩
    refine AfOn_region w.heap.size sb m ((x : Int) + 1) k p e b _ _ _ _ _ _ _ _ _ _ _ _ _ _ _ _ _ _ _ _ _ _ _ _ w _ _ B3 d0 HK HP HE (by simpa using h3) hb ?_
    rintro w5 - B5
    cases b with
    | true =>
      have hlt : e < x + 1 := by have := of_decide_eq_true hb; omega
      rw [if_pos (.inr hlt)] at HR
      have h0 := HR.out
      subst h0
      clear hb
      go_wp2
      go_ret
      exact ⟨rfl, B5⟩
    | false =>
      have hlt : ¬ e < x + 1 := by have := of_decide_eq_false hb; omega
      rw [if_neg (by rintro (h | h) <;> contradiction)] at HR
      have h0 := HR.out
      subst h0
      clear hb
      go_wp2
      go_ret
      exact ⟨rfl, B5⟩
end Go.Proofs.YtcmlfkoeajpliaaDoor
