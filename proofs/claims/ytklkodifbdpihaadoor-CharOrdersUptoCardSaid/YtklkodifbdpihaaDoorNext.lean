/- The reference reads the first character of any text that is not empty as the plain function says. No condition beyond what the theorems state. -/
import Derived.Test.YtklkodifbdpihaaDoorNextB
import Derived.Test.YtklkodifbdpihaaDoorNextC
namespace Go.Proofs.YtklkodifbdpihaaDoor
open Go.RowKit Go.Lib
set_option maxRecDepth 100000
theorem next_any (s : ByteArray) (w : World) (h0 : 0 < s.size) (hs : s.size ≤ maxLen) : Calls Tryd.prog 39 #[.string s] w (nextPost s w) := by
  have u0 : s[0].toNat < 256 := UInt8.toNat_lt _
  by_cases c1 : s[0].toNat < 128
  · exact next_asc s w h0 hs c1
  by_cases c2 : s[0].toNat < 192
  · exact next_lead s w h0 hs (.inl ⟨by omega, c2⟩)
  by_cases c3 : 248 ≤ s[0].toNat
  · exact next_lead s w h0 hs (.inr c3)
  by_cases c4 : s[0].toNat < 224
  · by_cases d : 2 ≤ s.size
    · exact next2 s w d hs (by omega) c4
    · exact next_short s w h0 hs (.inl ⟨by omega, c4, by omega⟩)
  by_cases c5 : s[0].toNat < 240
  · by_cases d : 3 ≤ s.size
    · exact next3 s w d hs (by omega) c5
    · exact next_short s w h0 hs (.inr (.inl ⟨by omega, c5, by omega⟩))
  by_cases d : 4 ≤ s.size
  · exact next4 s w d hs (by omega) (by omega)
  · exact next_short s w h0 hs (.inr (.inr ⟨by omega, by omega, by omega⟩))

def nextL (l : List UInt8) : Nat × Nat := if (decodeL l).1 = 65533 ∧ (decodeL l).2 = 1 then (0, 0) else decodeL l
theorem nextS_eq (s : ByteArray) : nextS s = nextL s.data.toList := by
  unfold nextS nextL nextOf
  rw [decodeL_N]
  unfold bN
  rw [show s.data.toList.length = s.size from by simp]
theorem extract_list (s : ByteArray) (p q : Nat) : (s.extract p q).data.toList = (s.data.toList.take q).drop p := by
  rw [ByteArray.data_extract, Array.toList_extract, List.extract_eq_take_drop, List.drop_take]
theorem extract_drop (s : ByteArray) (p : Nat) : (s.extract p s.size).data.toList = s.data.toList.drop p := by
  rw [extract_list, List.take_of_length_le (by simp)]
theorem next_drop (s : ByteArray) (p : Nat) : nextS (s.extract p s.size) = nextL (s.data.toList.drop p) := by rw [nextS_eq, extract_drop]
end Go.Proofs.YtklkodifbdpihaaDoor
