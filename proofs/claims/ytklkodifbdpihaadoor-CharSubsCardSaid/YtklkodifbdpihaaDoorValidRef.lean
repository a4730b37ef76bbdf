/- The reference tells valid texts. No condition beyond what the theorems state. -/
import Derived.Test.YtklkodifbdpihaaDoorPoints
namespace Go.Proofs.YtklkodifbdpihaaDoor
open Go.RowKit Go.Lib
set_option maxRecDepth 100000
def xmlN (r : Nat) : Bool := xmlB (r : Int)
def validX (l : List UInt8) : Bool := validD l && (runes l).all xmlN
theorem own_read {w : World} {B n : Nat} {v : Value} {xs : List Nat} (h : w.ownsRow B 3 1 v n (cellsI xs)) :
    ∃ A cap, v = .slice A n cap ∧ xs.length = n ∧ ∀ k, k < n → ∃ g, A = some ⟨g, 0, none⟩ ∧ w.cell? ⟨g, k, none⟩ = some (.int .i64 ((xs.getD k 0 : Nat) : Int)) := by
  have hl : xs.length = n := by have := h.1; simpa [cellsI] using this
  rcases h.2 with ⟨rfl, hn⟩ | ⟨g, cap, cur, rfl, hB, hh, hnc, hcm, hcs, hct⟩
  · subst hn; exact ⟨none, 0, rfl, hl, fun k hk => absurd hk (by omega)⟩
  · refine ⟨some ⟨g, 0, none⟩, cap, rfl, hl, fun k hk => ⟨g, rfl, ?_⟩⟩
    have hc := h.cells (g := g) rfl k (.int .i64 ((xs.getD k 0 : Nat) : Int)) (by
      unfold cellsI
      rw [List.getElem?_map, List.getD_eq_getElem?_getD, List.getElem?_eq_getElem (by omega)]; rfl)
    by_cases k0 : k = 0
    · subst k0; simpa [Addr.add] using hc
    · simpa [Addr.add, k0] using hc
theorem all_take_succ (xs : List Nat) (p : Nat → Bool) (k : Nat) (hk : k < xs.length) : (xs.take (k + 1)).all p = ((xs.take k).all p && p (xs.getD k 0)) := by
  rw [List.take_succ_eq_append_getElem hk, List.all_append, List.getD_eq_getElem?_getD, List.getElem?_eq_getElem hk]
  simp

set_option maxHeartbeats 1000000 in
theorem valid_ref (s : ByteArray) (w : World) (hs : s.size ≤ 1099511627776) : Calls Tryd.prog 9 #[.string s] w fun e w' => e = .returned (.bool (validX s.data.toList)) ∧ Below w.heap.size w w' := by
  have cP := points_ref s w hs
  obtain ⟨l, hl⟩ : ∃ l, s.data.toList = l := ⟨_, rfl⟩
  rw [hl] at cP ⊢
  have hsz : l.length = s.size := by rw [← hl]; simp
  have hrl := runes_le l
  clear hl
  unfold validX
  obtain ⟨xs, hxs⟩ : ∃ xs, runes l = xs := ⟨_, rfl⟩
  unfold ptsOut at cP
  rw [hxs] at cP hrl ⊢
  rw [hsz] at hrl
  clear hxs hsz
  obtain ⟨V, hV⟩ : ∃ V, validD l = V := ⟨_, rfl⟩
  rw [hV] at cP ⊢
  clear hV
  have H := Lib.hid cP
  clear cP
  go_enter Tryd.func9, Tryd.ntmps9
  go_wp2_with fail
  refine H.out.mono ?_
  rintro e w1 (⟨rfl, v, rfl, hown, hb⟩ | ⟨rfl, rfl, hb⟩)
  · obtain ⟨A, cap, rfl, hxl, hrd⟩ := own_read hown
    clear hown H
    have XL := Lib.hid hxl
    have RD := Lib.hid hrd
    clear hrd hxl
    obtain ⟨n, hn⟩ : ∃ n, xs.length = n := ⟨_, rfl⟩
    rw [hn] at RD XL hrl ⊢
    have HN := Lib.hid hn
    clear hn XL
    go_wp2
    go_loop [4, 5] (fun o i => ∃ k : Nat, k ≤ n ∧ i = .int .i64 k ∧ o = .bool ((xs.take k).all xmlN)) (fun _ i => n - (intOf i).toNat)
    case atStart => exact ⟨0, Nat.zero_le _, rfl, by simp⟩
    case round =>
      obtain ⟨k, hk, rfl, rfl⟩ := hrel
      by_cases hlt : k < n
      · obtain ⟨g, rfl, hc⟩ := RD.out k hlt
        have hts := Lib.hid (all_take_succ xs xmlN k (by rw [HN.out]; exact hlt))
        obtain ⟨x, hx⟩ : ∃ x, xs.getD k 0 = x := ⟨_, rfl⟩
        rw [hx] at hc hts
        have cX := xml_any (x : Int) w1
        rw [show xmlB (x : Int) = xmlN x from rfl] at cX
        cases hbv : (xs.take k).all xmlN
        · rw [hbv] at hts
          clear hbv hx cX
          go_wp2
          go_round
          case rel => exact ⟨k + 1, by omega, by go_num, by rw [hts.out]; rfl⟩
          case measure => simp [intOf]; omega
        · rw [hbv] at hts
          clear hbv hx
          have HX := Lib.hid cX
          clear cX
          go_wp2_with (go_at_call 26; refine HX.out.mono ?_; rintro e w' ⟨rfl, rfl⟩)
          go_round
          case rel => exact ⟨k + 1, by omega, by go_num, by rw [hts.out]; rfl⟩
          case measure => simp [intOf]; omega
      · obtain rfl : k = n := by omega
        go_wp2
        go_ret
        exact ⟨by rw [List.take_of_length_le (by rw [HN.out]; omega)]; rfl, hb⟩
  · clear H
    go_wp2
    go_loop [4, 5] (fun o i => i = .int .i64 0 ∧ o = .bool false) (fun _ _ => 0)
    case atStart => exact ⟨rfl, rfl⟩
    case round =>
      obtain ⟨rfl, rfl⟩ := hrel
      go_wp2
      go_ret
      exact ⟨rfl, hb⟩
end Go.Proofs.YtklkodifbdpihaaDoor
