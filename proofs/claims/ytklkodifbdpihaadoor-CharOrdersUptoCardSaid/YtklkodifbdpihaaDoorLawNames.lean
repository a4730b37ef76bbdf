/- The statement CharNames answers true at every text, in every world that holds the two tables. No condition beyond what the theorems state. -/
import Derived.Test.YtklkodifbdpihaaDoorAwake
import Derived.Test.YtklkodifbdpihaaDoorMathL
namespace Go.Proofs.YtklkodifbdpihaaDoor
open Go.RowKit Go.Lib
set_option maxRecDepth 100000
theorem str_eq {o s : ByteArray} (h : o.data.toList = s.data.toList) : o = s := by
  cases o; cases s; simp at h; subst h; rfl
/-- one call of char.Name, at any later world -/
theorem name_call (w : World) (hT : tabs w) (W : World) (hb : Below w.heap.size w W) (b : ByteArray) (r : Bool) (hs : b.size ≤ maxLen) (hr : nameX b.data.toList = r) :
    Calls Tryd.prog 11 #[.string b] W fun e w' => e = .returned (.bool r) ∧ Below w.heap.size w w' := by
  have := name_any b W hs (tabs_to hT hb)
  rw [hr] at this
  exact this.mono fun e w' ⟨h1, h2⟩ => ⟨h1, hb.trans (h2.mono hb.size)⟩
theorem awake_call (w : World) (hT : tabs w) (W : World) (hb : Below w.heap.size w W) : Calls Tryd.prog 8 #[] W fun e w' => e = .returned (.bool true) ∧ Below w.heap.size w w' :=
  (awake_any W (tabs_to hT hb)).mono fun _e _w' ⟨h1, h2⟩ => ⟨h1, hb.trans (h2.mono hb.size)⟩
def lawPost (w : World) (e : Ending) (w' : World) : Prop := e = .returned (.bool true) ∧ Below w.heap.size w w'
set_option maxHeartbeats 4000000 in
theorem names_law (s : ByteArray) (w : World) (hs : s.size ≤ maxLen) (hT : tabs w) : Calls Tryd.prog 7 #[.string s] w (lawPost w) := by
  have HT := Lib.hid hT
  clear hT
  have hs' := hs
  unfold maxLen at hs'
  by_cases hbig : 3000 < s.size
  · go_enter Tryd.func7, Tryd.ntmps7
    go_wp2_with fail
    refine (awake_call w HT.out w (Below.refl _ _)).mono ?_
    rintro e w1 ⟨rfl, b1⟩
    go_wp2_with fail
    refine (awake_call w HT.out w1 b1).mono ?_
    rintro e w2 ⟨rfl, b2⟩
    go_wp2_with fail
    go_ret
    exact ⟨rfl, b2⟩
  · cases hn : nameX s.data.toList
    · have cN := fun W => name_ref s W (by omega)
      rw [hn] at cN
      have CN := Lib.hid cN
      clear cN hn
      go_enter Tryd.func7, Tryd.ntmps7
      go_wp2_with fail
      refine (awake_call w HT.out w (Below.refl _ _)).mono ?_
      rintro e w1 ⟨rfl, b1⟩
      go_wp2_with fail
      refine (CN.out w1).mono ?_
      rintro e w2 ⟨rfl, b2⟩
      have B2 := b1.trans (b2.mono b1.size)
      go_wp2_with fail
      refine (awake_call w HT.out w2 B2).mono ?_
      rintro e w3 ⟨rfl, b3⟩
      go_wp2_with fail
      go_ret
      exact ⟨rfl, b3⟩
    · have cN := fun W => name_ref s W (by omega)
      rw [hn] at cN
      have CN := Lib.hid cN
      have sz : ∀ (a b : ByteArray), (a ++ b).size = a.size + b.size := fun a b => ByteArray.size_append
      have n1 : nameX (s ++ ⟨#[97]⟩ : ByteArray).data.toList = true := by rw [append_list]; exact name_snoc hn 97 (by decide) (by decide) (fun k _ => .inl (by decide))
      have n2 : nameX (s ++ ⟨#[57]⟩ : ByteArray).data.toList = true := by rw [append_list]; exact name_snoc hn 57 (by decide) (by decide) (fun k hk => .inr ⟨hk, by decide⟩)
      have n3 : nameX (⟨#[95]⟩ ++ s : ByteArray).data.toList = true := by rw [append_list]; exact name_cons hn 95 (by decide) (by decide) (.inl (by decide))
      have n4 : nameX (s ++ ⟨#[32]⟩ : ByteArray).data.toList = false := by rw [append_list]; exact name_snoc_no hn 32 (by decide) (fun k => by unfold okP; intro h; rcases h with h | h; exact absurd h (by decide); exact absurd h.2 (by decide))
      have n5 : nameX (⟨#[32]⟩ ++ s : ByteArray).data.toList = false := by rw [append_list]; exact name_cons_no 32 (by decide) (by decide)
      have n6 : nameX (⟨#[57]⟩ ++ s : ByteArray).data.toList = false := by rw [append_list]; exact name_cons_no 57 (by decide) (by decide)
      have n7 : normB (⟨#[32]⟩ ++ s ++ ⟨#[10]⟩ ++ s : ByteArray).data.toList = (s ++ ⟨#[32]⟩ ++ s : ByteArray).data.toList := by rw [append_list, append_list, append_list, append_list, append_list]; exact name_normal hn
      have n8 : trimB s.data.toList = s.data.toList := name_trim hn
      have N1 := Lib.hid n1; have N2 := Lib.hid n2; have N3 := Lib.hid n3; have N4 := Lib.hid n4; have N5 := Lib.hid n5; have N6 := Lib.hid n6; have N7 := Lib.hid n7; have N8 := Lib.hid n8
      have SZ := Lib.hid sz
      clear cN hn n1 n2 n3 n4 n5 n6 n7 n8 sz
      have z1 : ∀ (a : ByteArray), a.size = 1 → (s ++ a).size ≤ maxLen ∧ (a ++ s).size ≤ maxLen := fun a h => by rw [SZ.out, SZ.out, h]; unfold maxLen; omega
      have Z1 := Lib.hid z1
      clear z1
      go_enter Tryd.func7, Tryd.ntmps7
      go_wp2_with fail
      refine (awake_call w HT.out w (Below.refl _ _)).mono ?_
      rintro e w1 ⟨rfl, b1⟩
      go_wp2_with fail
      refine (CN.out w1).mono ?_
      rintro e w2 ⟨rfl, b2⟩
      have B2 := b1.trans (b2.mono b1.size)
      go_wp2_with fail
      refine (name_call w HT.out w2 B2 _ true (Z1.out _ rfl).1 N1.out).mono ?_
      rintro e w3 ⟨rfl, B3⟩
      go_wp2_with fail
      refine (name_call w HT.out w3 B3 _ true (Z1.out _ rfl).1 N2.out).mono ?_
      rintro e w4 ⟨rfl, B4⟩
      go_wp2_with fail
      refine (name_call w HT.out w4 B4 _ true (Z1.out _ rfl).2 N3.out).mono ?_
      rintro e w5 ⟨rfl, B5⟩
      go_wp2_with fail
      refine (name_call w HT.out w5 B5 _ false (Z1.out _ rfl).1 N4.out).mono ?_
      rintro e w6 ⟨rfl, B6⟩
      go_wp2_with fail
      refine (name_call w HT.out w6 B6 _ false (Z1.out _ rfl).2 N5.out).mono ?_
      rintro e w7 ⟨rfl, B7⟩
      go_wp2_with fail
      refine (name_call w HT.out w7 B7 _ false (Z1.out _ rfl).2 N6.out).mono ?_
      rintro e w8 ⟨rfl, B8⟩
      go_wp2_with fail
      refine (trim_any s w8 hs (tabs_to HT.out B8)).mono ?_
      rintro e w9 ⟨o, rfl, ho, b9⟩
      have heq := str_eq (ho.trans N8.out)
      subst heq
      have B9 := B8.trans (b9.mono B8.size)
      clear ho
      go_wp2_with fail
      refine (normal_any _ w9 (by rw [SZ.out, SZ.out, SZ.out, show (⟨#[32]⟩ : ByteArray).size = 1 from rfl, show (⟨#[10]⟩ : ByteArray).size = 1 from rfl]; omega)).mono ?_
      rintro e w10 ⟨o2, rfl, h2, b10⟩
      have heq := str_eq (h2.trans N7.out)
      subst heq
      have B10 := B9.trans (b10.mono B9.size)
      clear h2
      go_wp2_with fail
      all_goals go_ret
      all_goals exact ⟨rfl, B10⟩
end Go.Proofs.YtklkodifbdpihaaDoor
