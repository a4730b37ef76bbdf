/- Package char cuts parts out of valid texts. No condition beyond what the theorems state. -/
import Derived.Test.YtklkodifbdpihaaDoorSubAll
namespace Go.Proofs.YtklkodifbdpihaaDoor
open Go.RowKit Go.Lib
set_option maxRecDepth 100000
def subS (l : List UInt8) (fr co : Int) : List UInt8 := if co < 1 then [] else if fr < 0 then subL (runes l) 0 (co + fr) else subL (runes l) fr.toNat co
def box4 (w : World) (a b c d : Value) : World := (((w.alloc (.cells #[a] 3)).alloc (.cells #[b] 3)).alloc (.cells #[c] 3)).alloc (.cells #[d] 3)
theorem bk_new (w : World) (a : Value) : Bk (w.alloc (.cells #[a] 3)) w.heap.size a := heap_alloc_new w _
theorem bk_old {w : World} {b : Nat} {v : Value} (h : Bk w b v) (o : Obj) : Bk (w.alloc o) b v := (Below.heap_alloc w o b h.lt).trans h
theorem box4_at (w : World) (a b c d : Value) : Bk (box4 w a b c d) w.heap.size a ∧ Bk (box4 w a b c d) (w.heap.size + 1) b ∧ Bk (box4 w a b c d) (w.heap.size + 1 + 1) c ∧ Bk (box4 w a b c d) (w.heap.size + 1 + 1 + 1) d := by
  unfold box4
  refine ⟨bk_old (bk_old (bk_old (bk_new w a) _) _) _, bk_old (bk_old ?_ _) _, bk_old ?_ _, ?_⟩
  · simpa using bk_new (w.alloc (.cells #[a] 3)) b
  · simpa using bk_new ((w.alloc (.cells #[a] 3)).alloc (.cells #[b] 3)) c
  · simpa using bk_new (((w.alloc (.cells #[a] 3)).alloc (.cells #[b] 3)).alloc (.cells #[c] 3)) d
theorem box4_below (w : World) (a b c d : Value) : Below w.heap.size w (box4 w a b c d) := by
  unfold box4
  exact ((((Below.refl _ _).alloc (Nat.le_refl _) _).alloc (by simp) _).alloc (by simp; omega) _).alloc (by simp; omega) _
set_option maxHeartbeats 2000000 in
theorem sub_any (s : ByteArray) (fr co : Int) (w : World) (hs : s.size ≤ 1099511627776) (f1 : -9223372036854775808 ≤ fr) (f2 : fr ≤ 9223372036854775807) (c1 : -9223372036854775808 ≤ co) (c2 : co ≤ 9223372036854775807)
    (hv : validD s.data.toList = true) : Calls Tryd.prog 21 #[.string s, .int .i64 fr, .int .i64 co] w (strPost w.heap.size w (subS s.data.toList fr co)) := by
  have hmx : s.size ≤ maxLen := by unfold maxLen; omega
  by_cases h1 : co < 1
  · have E : Hid (subS s.data.toList fr co = []) := Lib.hid (by unfold subS; rw [if_pos h1])
    go_enter Tryd.func21, Tryd.ntmps21
    go_wp2
    go_ret
    exact ⟨_, rfl, by rw [E.out], ((Below.refl _ _).alloc (Nat.le_refl _) _).alloc (by simp) _⟩
  by_cases h2 : fr < 0
  · have E : Hid (subS s.data.toList fr co = subL (runes s.data.toList) 0 (co + fr)) := Lib.hid (by unfold subS; rw [if_neg h1, if_pos h2])
    obtain ⟨k0, k1, k2, k3⟩ := box4_at w (.int .i64 0) (.int .i64 (co + fr)) (.int .i64 s.size) (.int .i64 s.size)
    have hbb := box4_below w (.int .i64 0) (.int .i64 (co + fr)) (.int .i64 s.size) (.int .i64 s.size)
    have cA := subAll w.heap.size w.heap.size (w.heap.size + 1 + 1) (w.heap.size + 1) (w.heap.size + 1 + 1 + 1) s 0 (co + fr) (box4 w (.int .i64 0) (.int .i64 (co + fr)) (.int .i64 s.size) (.int .i64 s.size)).drew hmx (by omega) hv (fun _ => rfl)
      k0 k2 k1 k3 (by omega) (by omega) (by omega) (by omega) (by omega) (by omega) (by omega)
    unfold box4 at cA hbb
    have C := Lib.hid cA
    clear cA k0 k1 k2 k3
    go_enter Tryd.func21, Tryd.ntmps21
    go_wp2_with fail
    go_region
    all_goals
      go_wp2_with fail
      refine C.out.mono ?_
      rintro e w' ⟨b, rfl, hb, fi, en, q1, q3, hfe, hes, hl⟩
      have g1 := q1.cell
      have g3 := q3.cell
      have HB := Lib.hid hb
      have HL := Lib.hid hl
      have HBB := Lib.hid hbb
      clear q1 q3 hb hl hbb
      go_wp2
      go_ret
      exact ⟨_, rfl, by rw [HL.out, E.out], HBB.out.drew.trans HB.out⟩
  · have E : Hid (subS s.data.toList fr co = subL (runes s.data.toList) fr.toNat co) := Lib.hid (by unfold subS; rw [if_neg h1, if_neg h2])
    obtain ⟨f, hf⟩ : ∃ f : Nat, fr = (f : Int) := ⟨fr.toNat, by omega⟩
    subst hf
    obtain ⟨k0, k1, k2, k3⟩ := box4_at w (.int .i64 f) (.int .i64 co) (.int .i64 s.size) (.int .i64 s.size)
    have hbb := box4_below w (.int .i64 f) (.int .i64 co) (.int .i64 s.size) (.int .i64 s.size)
    have cA := subAll w.heap.size w.heap.size (w.heap.size + 1 + 1) (w.heap.size + 1) (w.heap.size + 1 + 1 + 1) s f co (box4 w (.int .i64 f) (.int .i64 co) (.int .i64 s.size) (.int .i64 s.size)) hmx (by omega) hv (fun h => absurd h (by omega))
      k0 k2 k1 k3 (by omega) (by omega) (by omega) (by omega) (by omega) (by omega) (by omega)
    unfold box4 at cA hbb
    have C := Lib.hid cA
    clear cA k0 k1 k2 k3
    go_enter Tryd.func21, Tryd.ntmps21
    go_wp2_with fail
    refine C.out.mono ?_
    rintro e w' ⟨b, rfl, hb, fi, en, q1, q3, hfe, hes, hl⟩
    have g1 := q1.cell
    have g3 := q3.cell
    have HB := Lib.hid hb
    have HL := Lib.hid hl
    have HBB := Lib.hid hbb
    clear q1 q3 hb hl hbb
    go_wp2
    go_ret
    exact ⟨_, rfl, by rw [HL.out, E.out]; rfl, HBB.out.trans HB.out⟩
end Go.Proofs.YtklkodifbdpihaaDoor
