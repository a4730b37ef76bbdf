/- The examples of the document. No condition beyond what the theorems state. -/
import Derived.Test.YtpdaldpaceolnaaGreatDoorDocument
namespace Go.Proofs.YtpdaldpaceolnaaGreatDoor
open Go.RowKit Go.Lib
set_option maxRecDepth 100000
theorem ex_good : docF (linesF [60, 97, 32, 120, 61, 34, 49, 34, 62, 116, 60, 98, 47, 62, 60, 47, 97, 62]) = .ok (.mk 1 [] [] [] [.mk 2 [97] [] [([120], [49])] [.mk 4 [] [116] [] [], .mk 2 [98] [] [] []]]) [] := by kernel_rfl
theorem ex_bad : docF (linesF [60, 97, 62]) = .bad := by kernel_rfl
theorem ex_valid1 : validX [60, 97, 32, 120, 61, 34, 49, 34, 62, 116, 60, 98, 47, 62, 60, 47, 97, 62] = true := by kernel_rfl
theorem ex_valid2 : validX [60, 97, 62] = true := by kernel_rfl
end Go.Proofs.YtpdaldpaceolnaaGreatDoor
namespace Go.Proofs.YtpdaldpaceolnaaGreatDoor
open Go.RowKit Go.Lib
set_option maxRecDepth 100000
set_option maxHeartbeats 8000000
theorem one_tree {L : List Tr} {p : PT} (h : plL L = [p]) : ∃ t, L = [t] ∧ t.pl = p := by
  match L, h with
  | [t], h =>
    simp only [plL, List.cons.injEq, and_true] at h
    exact ⟨t, rfl, h⟩
  | a :: b :: c, h => simp only [plL, List.cons.injEq] at h; exact absurd h.2 (by simp)
  | [], h => simp only [plL] at h; cases h
theorem plL_len' (L : List Tr) : (plL L).length = L.length := by rw [plL_map, List.length_map]
theorem awake_any (w : World) (hE : Env w) : Calls Tryz.prog 8 #[] w fun e w' => e = .returned (.bool true) ∧ Below w.heap.size w w' := by
  have h1 := parse_valid [60, 97, 32, 120, 61, 34, 49, 34, 62, 116, 60, 98, 47, 62, 60, 47, 97, 62] (by decide) ex_valid1 w hE
  rw [ex_good] at h1
  have H1 : Hid (Calls Tryz.prog 9 #[.string ⟨#[60, 97, 32, 120, 61, 34, 49, 34, 62, 116, 60, 98, 47, 62, 60, 47, 97, 62]⟩] w fun e w' => (∃ T : Tr, e = .returned (.tuple #[T.v, .int .i64 0]) ∧ T.pl = .mk 1 [] [] [] [.mk 2 [97] [] [([120], [49])] [.mk 4 [] [116] [] [], .mk 2 [98] [] [] []]] ∧ T.In (NewB w w') w' ∧ T.Caps) ∧ Below w.heap.size w w') := Lib.hid h1
  have H2 : Hid (∀ W, Below w.heap.size w W → Calls Tryz.prog 9 #[.string ⟨#[60, 97, 62]⟩] W fun e w' => e = .returned (.tuple #[zeroV, .int .i64 61]) ∧ Below W.heap.size W w') := Lib.hid fun W hW => by
    have h2 := parse_valid [60, 97, 62] (by decide) ex_valid2 W (hE.below hW)
    rw [ex_bad] at h2
    exact h2
  clear h1 hE
  go_enter Tryz.func8, Tryz.ntmps8
  go_wp2_with fail
  refine H1.out.mono ?_
  rintro e w1 ⟨⟨T, rfl, hp, hin, _⟩, hb1⟩
  have HB1 := Lib.hid hb1
  obtain ⟨tk, tn, tv, tA, tac, tps, tK, tkc, tks⟩ := T
  simp only [Tr.pl, PT.mk.injEq] at hp
  obtain ⟨rfl, rfl, rfl, rfl, hks⟩ := hp
  obtain ⟨t1, rfl, ht1⟩ := one_tree hks
  obtain ⟨uk, un, uv, uA, uac, ups, uK, ukc, uks⟩ := t1
  simp only [Tr.pl, PT.mk.injEq] at ht1
  obtain ⟨rfl, rfl, rfl, rfl, hus⟩ := ht1
  have hul : uks.length = 2 := by rw [← plL_len', hus]; rfl
  simp only [Tr.In] at hin
  obtain ⟨_, hrow, _⟩ := hin
  obtain ⟨ad, rfl, hP, d0, d1, d2, d3, d4⟩ := kid_at hrow (i := 0) rfl (by simp)
  rw [hul] at d4
  have hbl : (ad.add (0 * 5)).block < w1.heap.size := by rw [block_of_add]; exact hP.2
  simp only [List.length_cons, List.length_nil, Nat.zero_add] at d3
  simp only [Nat.zero_mul] at d0 d1 d2 d3 d4 hbl
  have haz : ad.add 0 = ad := by
    obtain ⟨x, y, z⟩ := ad
    unfold Addr.add
    split <;> simp_all
  simp only [haz] at d0 d1 d2 d3 d4 hbl
  clear haz
  clear hks hus hul hrow hP H1 hb1 d0 d2
  simp only [Tr.v, List.length_cons, List.length_nil, Nat.zero_add]
  go_wp2_with fail
  refine (H2.out _ (ba HB1.out)).mono ?_
  rintro e w2 ⟨rfl, hb2⟩
  have hn2 : Below w1.heap.size w1 w2 := (ba (Below.refl _ _)).trans (hb2.mono (by simp))
  have e0 : w2.cell? ⟨w1.heap.size, 0, none⟩ = some (.int .i64 1) := ((bcell hb2).1 _ _ (by simp)).trans (by go_simp)
  have e4 : w2.cell? ⟨w1.heap.size, 4, none⟩ = some (.slice (some ad) 1 tkc) := ((bcell hb2).1 _ _ (by simp)).trans (by go_simp)
  have k1 := (hn2.cell (p := { block := ad.block, off := ad.off + 1 }) hbl).trans d1
  have k3 := (hn2.cell (p := { block := ad.block, off := ad.off + 3 }) hbl).trans d3
  have k4 := (hn2.cell (p := { block := ad.block, off := ad.off + 4 }) hbl).trans d4
  have HB2 := Lib.hid (bt HB1.out hn2)
  have lz : w1.heap.size < w2.heap.size := World.block_lt_of_cell? w2 _ e0
  have kb : ad.block < w2.heap.size := (show ({ block := ad.block, off := ad.off + 1 } : Addr).block < w2.heap.size from World.block_lt_of_cell? w2 _ k1)
  have K1 := ((ba (o := (.cells #[.int .i64 0, .string ⟨#[]⟩, .string ⟨#[]⟩, .slice none 0 0, .slice none 0 0] 27)) (Below.refl _ w2)).cell (p := { block := ad.block, off := ad.off + 1 }) kb).trans k1
  have K3 := ((ba (o := (.cells #[.int .i64 0, .string ⟨#[]⟩, .string ⟨#[]⟩, .slice none 0 0, .slice none 0 0] 27)) (Below.refl _ w2)).cell (p := { block := ad.block, off := ad.off + 3 }) kb).trans k3
  have K4 := ((ba (o := (.cells #[.int .i64 0, .string ⟨#[]⟩, .string ⟨#[]⟩, .slice none 0 0, .slice none 0 0] 27)) (Below.refl _ w2)).cell (p := { block := ad.block, off := ad.off + 4 }) kb).trans k4
  clear hb2 hn2 d1 d3 d4 H2
  have hq : ((ba' [97]).toList == [97]) = true := by rw [toList_ba]; rfl
  go_wp2
  go_ret
  exact ⟨rfl, by have := HB2.out; repeat (with_reducible (first | assumption | apply ba))⟩
end Go.Proofs.YtpdaldpaceolnaaGreatDoor
