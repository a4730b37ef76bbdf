/- Package char makes a text of numbers, or refuses. No condition beyond what the theorems state. -/
import Derived.Test.YtklkodifbdpihaaDoorTextRef
import Derived.Test.YtklkodifbdpihaaDoorShelf
namespace Go.Proofs.YtklkodifbdpihaaDoor
open Go.RowKit Go.Lib
set_option maxRecDepth 100000
def tyRel (w : World) (xs : List Int) (n : Nat) (si : Value) (wx : World) : Prop :=
  ∃ k : Nat, k ≤ n ∧ si = .int .i64 k ∧ Lib.IsBuilderF 57 5 w.heap.size w.heap.size (Lib.byteCells (fz (xs.take k))) wx ∧ Below w.heap.size w wx ∧ (fz (xs.take k)).length ≤ 4 * k ∧ Hid ((xs.take k).all xmlB = true)
set_option maxHeartbeats 4000000 in
theorem text_any (A : Option Addr) (n c : Nat) (xs : List Int) (w : World) (hn2 : n ≤ 1099511627776) (hx : intsBelow w A n xs) : Calls Tryd.prog 24 #[.slice A n c] w (txPost w.heap.size w xs (.int .i64 2) (.int .i64 0)) := by
  obtain ⟨hn, hrd⟩ := hx
  have RD := Lib.hid hrd
  have HN := Lib.hid hn
  have hfr := Lib.fresh_isBuilder 57 5 w
  have HF := Lib.hid (Lib.IsBuilderF.of hfr)
  clear hrd hn hfr
  go_enter Tryd.func24, Tryd.ntmps24
  go_wp2
  go_loopw [9] (fun si wx => tyRel w xs n si wx) (fun si _ => n - (intOf si).toNat)
  case atStart => exact ⟨0, Nat.zero_le _, rfl, HF.out, (Below.refl _ _).alloc (Nat.le_refl _) _, by simp [fz, fl], Lib.hid rfl⟩
  case round =>
    obtain ⟨k, hk, rfl, hib, hb, hle, hall⟩ := hrel
    have hbs := hb.size
    by_cases hlt : k < n
    · obtain ⟨g, off, rfl, hg, hc⟩ := RD.out k hlt
      have hc2 := (hb.cell (p := ⟨g, off + k, none⟩) hg).trans hc
      have hkl : k < xs.length := by rw [HN.out]; exact hlt
      have hs1 := fz_snoc xs k hkl
      have hs2 := allZ_succ xs xmlB k hkl
      have hs3 := Lib.hid (allZ_false xs xmlB k hkl)
      obtain ⟨x, hx⟩ : ∃ x, xs.getD k 0 = x := ⟨_, rfl⟩
      rw [hx] at hc2 hs1 hs2 hs3
      have cX := listed_any x
      cases hb2 : xmlB x
      · rw [hb2] at cX
        have CX := Lib.hid cX
        have F := Lib.hid (hs3.out hb2)
        have HB := Lib.hid hb
        clear cX hb2 hs1 hs2 hs3 hx hb hc hall hib
        go_wp2_with (go_at_call 30; refine (CX.out _).mono ?_; rintro e w2 ⟨rfl, rfl⟩)
        go_ret2
        exact .inr ⟨F.out, rfl, HB.out⟩
      · rw [hb2] at cX
        obtain ⟨x1, x2, x3⟩ := xml_ok hb2
        have hel := enc_length x.toNat x3
        have hcells : Lib.byteCells (fz (xs.take k)) ++ Lib.runeCells x = Lib.byteCells (fz (xs.take (k + 1))) := by
          rw [hs1, Lib.byteCells_append, ← Lib.byteCells_encodeRune]
          unfold enc
          rw [show ((x.toNat : Nat) : Int) = x from by omega]
        have hle2 : (fz (xs.take (k + 1))).length ≤ 4 * (k + 1) := by rw [hs1, List.length_append]; omega
        have cW := Tryd.Builder_WriteRune_k w.heap.size w.heap.size _ x (by omega) (by omega) wr hib (by rw [Lib.byteCells_length]; omega) hbs
        rw [hcells] at cW
        have HA : Hid ((xs.take (k + 1)).all xmlB = true) := Lib.hid (by rw [hs2, hall.out, hb2]; rfl)
        have CX := Lib.hid cX
        have CW := Lib.hid cW
        have HB := Lib.hid hb
        have HL := Lib.hid hle2
        clear cX hb2 hs1 hs2 hs3 hx hb hc hall x3 hib hel hcells cW hle2
        go_wp2_with (first
          | (go_at_call 30; refine (CX.out _).mono ?_; rintro e w2 ⟨rfl, rfl⟩)
          | (go_at_call 45; refine CW.out.mono ?_; rintro e w3 ⟨rfl, q1, q2, q3⟩))
        go_roundw
        case rel => exact ⟨k + 1, by omega, by go_num, .inr q1, HB.out.trans q2, HL.out, HA⟩
        case measure => simp [intOf]; omega
    · obtain rfl : k = n := by omega
      have e : xs.take k = xs := List.take_of_length_le (by rw [HN.out]; exact Nat.le_refl _)
      rw [e] at hib hall
      have cS := Tryd.Builder_String_any_f w.heap.size w.heap.size (fz xs) wr hib hbs
      have CS := Lib.hid cS
      have HB := Lib.hid hb
      clear cS hib hb
      go_wp2_with (go_at_call 46; refine CS.out.mono ?_; rintro e w3 ⟨rfl, q1, q2⟩)
      go_ret2
      exact .inl ⟨hall.out, _, rfl, rfl, HB.out.trans q2⟩
end Go.Proofs.YtklkodifbdpihaaDoor
