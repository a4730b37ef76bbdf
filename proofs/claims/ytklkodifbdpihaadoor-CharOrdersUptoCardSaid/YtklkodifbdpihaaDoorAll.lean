/- The loop over the characters of a text, under any invariant of its caller. No condition beyond what the theorems state. -/
import Derived.Test.YtklkodifbdpihaaDoorClos
namespace Go.Proofs.YtklkodifbdpihaaDoor
open Go.RowKit Go.Lib
set_option maxRecDepth 100000
def allStep (s : ByteArray) (it : Nat) (I : Nat → Nat → World → Prop) (J : World → Prop) (k pos : Nat) (e : Ending) (w' : World) : Prop :=
  (e = .returned (.bool true) ∧ w'.heap[it]? = some (.stringIter s (pos + (Utf8.decode s pos).2)) ∧ I (k + 1) (pos + (Utf8.decode s pos).2) w') ∨ (e = .returned (.bool false) ∧ J w')
def allPost (s : ByteArray) (I : Nat → Nat → World → Prop) (J : World → Prop) (e : Ending) (w' : World) : Prop :=
  (e = .returned (.bool true) ∧ ∃ k, k ≤ s.size ∧ I k s.size w') ∨ (e = .returned (.bool false) ∧ J w')
def bothOf (b : Bool) (p q : Prop) : Prop := if b then p else q
theorem bothOf_t {p q : Prop} (h : bothOf true p q) : p := h
theorem bothOf_f {p q : Prop} (h : bothOf false p q) : q := h
def allRel (s : ByteArray) (it : Nat) (I : Nat → Nat → World → Prop) (gf : Nat) (v : Value) (wx : World) : Prop :=
  ∃ k pos : Nat, v = .int .i64 k ∧ I k pos wx ∧ wx.heap[it]? = some (.stringIter s pos) ∧ pos ≤ s.size ∧ s.size ≤ pos + gf ∧ k ≤ pos
set_option maxHeartbeats 1000000 in
theorem all_inv (g : Nat) (lb : Array Value) (eg : ∀ args w, (callFunc g args).run Tryd.prog w = .ok (.enter g args) w) (s : ByteArray) (w : World) (hs : s.size ≤ maxLen) (I : Nat → Nat → World → Prop) (J : World → Prop)
    (h0 : I 0 0 (w.iter s 0))
    (hstep : ∀ k pos W, k ≤ pos → pos < s.size → I k pos W → W.heap[w.heap.size]? = some (.stringIter s pos) →
      Calls Tryd.prog g (#[.int .i64 k, .int .i64 pos, .int .i32 (Utf8.decode s pos).1] ++ lb) (W.iterAt w.heap.size s (pos + (Utf8.decode s pos).2)) (allStep s w.heap.size I J k pos)) :
    Calls Tryd.prog 28 #[.string s, .func (.func g) #[] lb] w (allPost s I J) := by
  unfold maxLen at hs
  have HS := Lib.hid hstep
  have H0 := Lib.hid h0
  clear hstep h0
  go_enter Tryd.func28, Tryd.ntmps28
  go_wp2
  go_loopg [5] s.size (fun gf s5 wx => allRel s w.heap.size I gf s5 wx)
  case atStart => exact ⟨0, 0, rfl, H0.out, World.iter_heap w s 0, Nat.zero_le _, by omega, Nat.le_refl _⟩
  case round =>
    obtain ⟨k, pos, rfl, hI, hit, hps, hfu, hkp⟩ := hrel
    by_cases hlt : pos < s.size
    · obtain ⟨g', rfl⟩ : ∃ g', gk = g' + 1 := ⟨gk - 1, by omega⟩
      have hnx : ∀ ty, (Instr.next (.pointer (some ⟨w.heap.size, 0, none⟩)) true ty).run Tryd.prog wr = _ := fun ty => Lib.run_next_any_at wr w.heap.size s pos ty hit hlt
      have hwd := Lib.width_pos s pos
      have hwn : pos + (Utf8.decode s pos).2 ≤ s.size := by
        have := Lib.decodeN_le_n' (s.size - pos) (s.get! pos).toNat (s.get! (pos + 1)).toNat (s.get! (pos + 2)).toNat (s.get! (pos + 3)).toNat (by omega)
        rw [← Lib.decode_at] at this
        omega
      have cS := HS.out k pos wr hkp hlt hI hit
      unfold allStep at cS
      obtain ⟨R, hR⟩ : ∃ R, (Utf8.decode s pos).1 = R := ⟨_, rfl⟩
      obtain ⟨K, hK⟩ : ∃ K, (Utf8.decode s pos).2 = K := ⟨_, rfl⟩
      rw [hR, hK] at hnx cS
      rw [hK] at hwd hwn
      obtain ⟨W, hWd⟩ : ∃ W, wr.iterAt w.heap.size s (pos + K) = W := ⟨_, rfl⟩
      rw [hWd] at hnx cS
      have CS := Lib.hid cS
      have HI := Lib.hid hit
      clear hI hit HS cS hR hK hWd HI H0
      go_wp2_with (go_at_fn g; go_must (refine CS.out.mono ?_))
      rintro e w' h
      have h' : ∃ b, e = .returned (.bool b) ∧ bothOf b (w'.heap[w.heap.size]? = some (.stringIter s (pos + K)) ∧ I (k + 1) (pos + K) w') (J w') := by
        rcases h with ⟨rfl, a, b⟩ | ⟨rfl, a⟩
        · exact ⟨true, rfl, ⟨a, b⟩⟩
        · exact ⟨false, rfl, a⟩
      clear h CS
      obtain ⟨b, rfl, h1⟩ := h'
      cases b
      · have h2 := Lib.hid (bothOf_f h1)
        clear h1
        go_wp2
        go_ret
        exact .inr ⟨rfl, h2.out⟩
      · have h2 := Lib.hid (bothOf_t h1)
        clear h1
        go_wp2
        go_roundg g'
        case measure => omega
        case rel => exact ⟨k + 1, pos + K, by go_num, h2.out.2, h2.out.1, hwn, by omega, by omega⟩
    · obtain rfl : pos = s.size := by omega
      have hnx : ∀ ty, (Instr.next (.pointer (some ⟨w.heap.size, 0, none⟩)) true ty).run Tryd.prog wr = _ := fun ty => Lib.run_next_end_at wr w.heap.size s s.size ty hit hlt
      have HI := Lib.hid hI
      clear hI hit HS H0
      go_wp2
      go_ret
      exact .inl ⟨rfl, k, hkp, HI.out⟩
end Go.Proofs.YtklkodifbdpihaaDoor
