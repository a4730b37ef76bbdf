/- The reference encodes one character. No condition beyond what the theorems state. -/
import Derived.Test.YtklkodifbdpihaaDoorMathL
import Derived.Test.YtklkodifbdpihaaDoorTrimNorm
import Derived.Laws.BytesArg
namespace Go.Proofs.YtklkodifbdpihaaDoor
open Go.RowKit Go.Lib
set_option maxRecDepth 100000
set_option maxHeartbeats 2000000 in
theorem one1_any (p : Int) (h0 : 0 ≤ p) (h : p < 128) (hok : runeOk p.toNat) (w : World) : Calls Tryd.prog 43 #[.int .i64 p] w (strPost w.heap.size w (enc p.toNat)) := by
  have E : Hid ((strOfNums [p]).data.toList = enc p.toNat) := Lib.hid (by
    rw [strOfNums_data, encZ p.toNat hok, if_pos (by omega)]
    rfl)
  have hcv : (convert 55 9 (.slice (some ⟨w.heap.size, 0, none⟩) 1 1)).run Tryd.prog (w.alloc (.cells #[.int .u8 (p)] 5)) = .ok (.string (strOfNums [p])) (w.alloc (.cells #[.int .u8 (p)] 5)) :=
    run_convert_bytes_arg (P := Tryd.prog) (w.alloc (.cells #[.int .u8 (p)] 5)) 55 5 Tryd.underlying55 Tryd.underlying5 w.heap.size 0 1 1 [p] rfl (by
      intro i hi
      rw [Nat.zero_add]
      match i, hi with
      | 0, _ => simp) 9 Tryd.underlying9
  have hb : Below w.heap.size w (w.alloc (.cells #[.int .u8 (p)] 5)) := (Below.refl _ _).alloc (Nat.le_refl _) _
  obtain ⟨o, ho⟩ : ∃ o, strOfNums [p] = o := ⟨_, rfl⟩
  rw [ho] at hcv E
  clear ho hok
  have HB := Lib.hid hb
  clear hb
  go_enter Tryd.func43, Tryd.ntmps43
  go_wp2
  go_ret
  exact ⟨o, rfl, E.out, HB.out⟩
set_option maxHeartbeats 2000000 in
theorem one2_any (p : Int) (h0 : 128 ≤ p) (h : p < 2048) (hok : runeOk p.toNat) (w : World) : Calls Tryd.prog 43 #[.int .i64 p] w (strPost w.heap.size w (enc p.toNat)) := by
  have E : Hid ((strOfNums [192 + p / 64, 128 + p % 64]).data.toList = enc p.toNat) := Lib.hid (by
    rw [strOfNums_data, encZ p.toNat hok, if_neg (by omega), if_pos (by omega)]
    simp only [List.map_cons, List.map_nil]
    rw [show (192 + p / 64).toNat = 192 + p.toNat / 64 from by omega, show (128 + p % 64).toNat = 128 + p.toNat % 64 from by omega])
  have hcv : (convert 55 9 (.slice (some ⟨w.heap.size, 0, none⟩) 2 2)).run Tryd.prog (w.alloc (.cells #[.int .u8 (192 + p / 64), .int .u8 (128 + p % 64)] 5)) = .ok (.string (strOfNums [192 + p / 64, 128 + p % 64])) (w.alloc (.cells #[.int .u8 (192 + p / 64), .int .u8 (128 + p % 64)] 5)) :=
    run_convert_bytes_arg (P := Tryd.prog) (w.alloc (.cells #[.int .u8 (192 + p / 64), .int .u8 (128 + p % 64)] 5)) 55 5 Tryd.underlying55 Tryd.underlying5 w.heap.size 0 2 2 [192 + p / 64, 128 + p % 64] rfl (by
      intro i hi
      rw [Nat.zero_add]
      match i, hi with
      | 0, _ => simp
      | 1, _ => simp) 9 Tryd.underlying9
  have hb : Below w.heap.size w (w.alloc (.cells #[.int .u8 (192 + p / 64), .int .u8 (128 + p % 64)] 5)) := (Below.refl _ _).alloc (Nat.le_refl _) _
  obtain ⟨o, ho⟩ : ∃ o, strOfNums [192 + p / 64, 128 + p % 64] = o := ⟨_, rfl⟩
  rw [ho] at hcv E
  clear ho hok
  have HB := Lib.hid hb
  clear hb
  go_enter Tryd.func43, Tryd.ntmps43
  go_wp2
  go_ret
  exact ⟨o, rfl, E.out, HB.out⟩
set_option maxHeartbeats 2000000 in
theorem one3_any (p : Int) (h0 : 2048 ≤ p) (h : p < 65536) (hok : runeOk p.toNat) (w : World) : Calls Tryd.prog 43 #[.int .i64 p] w (strPost w.heap.size w (enc p.toNat)) := by
  have E : Hid ((strOfNums [224 + p / 4096, 128 + p / 64 % 64, 128 + p % 64]).data.toList = enc p.toNat) := Lib.hid (by
    rw [strOfNums_data, encZ p.toNat hok, if_neg (by omega), if_neg (by omega), if_pos (by omega)]
    simp only [List.map_cons, List.map_nil]
    rw [show (224 + p / 4096).toNat = 224 + p.toNat / 4096 from by omega, show (128 + p / 64 % 64).toNat = 128 + p.toNat / 64 % 64 from by omega, show (128 + p % 64).toNat = 128 + p.toNat % 64 from by omega])
  have hcv : (convert 55 9 (.slice (some ⟨w.heap.size, 0, none⟩) 3 3)).run Tryd.prog (w.alloc (.cells #[.int .u8 (224 + p / 4096), .int .u8 (128 + p / 64 % 64), .int .u8 (128 + p % 64)] 5)) = .ok (.string (strOfNums [224 + p / 4096, 128 + p / 64 % 64, 128 + p % 64])) (w.alloc (.cells #[.int .u8 (224 + p / 4096), .int .u8 (128 + p / 64 % 64), .int .u8 (128 + p % 64)] 5)) :=
    run_convert_bytes_arg (P := Tryd.prog) (w.alloc (.cells #[.int .u8 (224 + p / 4096), .int .u8 (128 + p / 64 % 64), .int .u8 (128 + p % 64)] 5)) 55 5 Tryd.underlying55 Tryd.underlying5 w.heap.size 0 3 3 [224 + p / 4096, 128 + p / 64 % 64, 128 + p % 64] rfl (by
      intro i hi
      rw [Nat.zero_add]
      match i, hi with
      | 0, _ => simp
      | 1, _ => simp
      | 2, _ => simp) 9 Tryd.underlying9
  have hb : Below w.heap.size w (w.alloc (.cells #[.int .u8 (224 + p / 4096), .int .u8 (128 + p / 64 % 64), .int .u8 (128 + p % 64)] 5)) := (Below.refl _ _).alloc (Nat.le_refl _) _
  obtain ⟨o, ho⟩ : ∃ o, strOfNums [224 + p / 4096, 128 + p / 64 % 64, 128 + p % 64] = o := ⟨_, rfl⟩
  rw [ho] at hcv E
  clear ho hok
  have HB := Lib.hid hb
  clear hb
  go_enter Tryd.func43, Tryd.ntmps43
  go_wp2
  go_ret
  exact ⟨o, rfl, E.out, HB.out⟩
set_option maxHeartbeats 2000000 in
theorem one4_any (p : Int) (h0 : 65536 ≤ p) (h : p < 1114112) (hok : runeOk p.toNat) (w : World) : Calls Tryd.prog 43 #[.int .i64 p] w (strPost w.heap.size w (enc p.toNat)) := by
  have E : Hid ((strOfNums [240 + p / 262144, 128 + p / 4096 % 64, 128 + p / 64 % 64, 128 + p % 64]).data.toList = enc p.toNat) := Lib.hid (by
    rw [strOfNums_data, encZ p.toNat hok, if_neg (by omega), if_neg (by omega), if_neg (by omega)]
    simp only [List.map_cons, List.map_nil]
    rw [show (240 + p / 262144).toNat = 240 + p.toNat / 262144 from by omega, show (128 + p / 4096 % 64).toNat = 128 + p.toNat / 4096 % 64 from by omega, show (128 + p / 64 % 64).toNat = 128 + p.toNat / 64 % 64 from by omega, show (128 + p % 64).toNat = 128 + p.toNat % 64 from by omega])
  have hcv : (convert 55 9 (.slice (some ⟨w.heap.size, 0, none⟩) 4 4)).run Tryd.prog (w.alloc (.cells #[.int .u8 (240 + p / 262144), .int .u8 (128 + p / 4096 % 64), .int .u8 (128 + p / 64 % 64), .int .u8 (128 + p % 64)] 5)) = .ok (.string (strOfNums [240 + p / 262144, 128 + p / 4096 % 64, 128 + p / 64 % 64, 128 + p % 64])) (w.alloc (.cells #[.int .u8 (240 + p / 262144), .int .u8 (128 + p / 4096 % 64), .int .u8 (128 + p / 64 % 64), .int .u8 (128 + p % 64)] 5)) :=
    run_convert_bytes_arg (P := Tryd.prog) (w.alloc (.cells #[.int .u8 (240 + p / 262144), .int .u8 (128 + p / 4096 % 64), .int .u8 (128 + p / 64 % 64), .int .u8 (128 + p % 64)] 5)) 55 5 Tryd.underlying55 Tryd.underlying5 w.heap.size 0 4 4 [240 + p / 262144, 128 + p / 4096 % 64, 128 + p / 64 % 64, 128 + p % 64] rfl (by
      intro i hi
      rw [Nat.zero_add]
      match i, hi with
      | 0, _ => simp
      | 1, _ => simp
      | 2, _ => simp
      | 3, _ => simp) 9 Tryd.underlying9
  have hb : Below w.heap.size w (w.alloc (.cells #[.int .u8 (240 + p / 262144), .int .u8 (128 + p / 4096 % 64), .int .u8 (128 + p / 64 % 64), .int .u8 (128 + p % 64)] 5)) := (Below.refl _ _).alloc (Nat.le_refl _) _
  obtain ⟨o, ho⟩ : ∃ o, strOfNums [240 + p / 262144, 128 + p / 4096 % 64, 128 + p / 64 % 64, 128 + p % 64] = o := ⟨_, rfl⟩
  rw [ho] at hcv E
  clear ho hok
  have HB := Lib.hid hb
  clear hb
  go_enter Tryd.func43, Tryd.ntmps43
  go_wp2
  go_ret
  exact ⟨o, rfl, E.out, HB.out⟩
theorem one_any (r : Nat) (hok : runeOk r) (w : World) : Calls Tryd.prog 43 #[.int .i64 r] w (strPost w.heap.size w (enc r)) := by
  have hr : (r : Int) < 1114112 := by unfold runeOk at hok; omega
  have h0 : (0 : Int) ≤ (r : Int) := by omega
  have he : enc r = enc (r : Int).toNat := by simp
  rw [he]
  have hok' : runeOk (r : Int).toNat := by simpa using hok
  generalize (r : Int) = p at *
  by_cases c1 : p < 128
  · exact one1_any p h0 c1 hok' w
  by_cases c2 : p < 2048
  · exact one2_any p (by omega) c2 hok' w
  by_cases c3 : p < 65536
  · exact one3_any p (by omega) c3 hok' w
  exact one4_any p (by omega) hr hok' w
end Go.Proofs.YtklkodifbdpihaaDoor
