/- The reference reads a first character of one or two bytes as the plain function says. No condition beyond what the theorems state. -/
import Derived.Test.YtklkodifbdpihaaDoorLeaf
import Derived.Test.YtklkodifbdpihaaDoorMathB
namespace Go.Proofs.YtklkodifbdpihaaDoor
open Go.RowKit Go.Lib
set_option maxRecDepth 100000
theorem ret_pair {a b : Int} {q r : Nat × Nat} (e : q = r) (h1 : a = r.1) (h2 : b = r.2) : Ending.returned (.tuple #[.int .i64 a, .int .i64 b]) = .returned (.tuple #[.int .i64 q.1, .int .i64 q.2]) := by rw [h1, h2, e]


def nextR2 (c0 c1 : Int) (p i : Value) : Prop := (i = .int .i64 1 ∧ p = .int .i64 (c0 - 192)) ∨ (i = .int .i64 2 ∧ 128 ≤ c1 ∧ c1 ≤ 191 ∧ p = .int .i64 (64 * (c0 - 192) + c1 - 128))
def nextR3 (c0 c1 c2 : Int) (p i : Value) : Prop := (i = .int .i64 1 ∧ p = .int .i64 (c0 - 224)) ∨ (i = .int .i64 2 ∧ 128 ≤ c1 ∧ c1 ≤ 191 ∧ p = .int .i64 (64 * (c0 - 224) + c1 - 128)) ∨
  (i = .int .i64 3 ∧ 128 ≤ c1 ∧ c1 ≤ 191 ∧ 128 ≤ c2 ∧ c2 ≤ 191 ∧ p = .int .i64 (64 * (64 * (c0 - 224) + c1 - 128) + c2 - 128))
def nextR4 (c0 c1 c2 c3 : Int) (p i : Value) : Prop := (i = .int .i64 1 ∧ p = .int .i64 (c0 - 240)) ∨ (i = .int .i64 2 ∧ 128 ≤ c1 ∧ c1 ≤ 191 ∧ p = .int .i64 (64 * (c0 - 240) + c1 - 128)) ∨
  (i = .int .i64 3 ∧ 128 ≤ c1 ∧ c1 ≤ 191 ∧ 128 ≤ c2 ∧ c2 ≤ 191 ∧ p = .int .i64 (64 * (64 * (c0 - 240) + c1 - 128) + c2 - 128)) ∨
  (i = .int .i64 4 ∧ 128 ≤ c1 ∧ c1 ≤ 191 ∧ 128 ≤ c2 ∧ c2 ≤ 191 ∧ 128 ≤ c3 ∧ c3 ≤ 191 ∧ p = .int .i64 (64 * (64 * (64 * (c0 - 240) + c1 - 128) + c2 - 128) + c3 - 128))
section
variable (s : ByteArray) (w : World)
def nextPost (s : ByteArray) (w : World) (e : Ending) (w' : World) : Prop := e = .returned (.tuple #[.int .i64 (nextS s).1, .int .i64 (nextS s).2]) ∧ w = w'

set_option maxHeartbeats 1000000 in
theorem next_asc (h0 : 0 < s.size) (hs : s.size ≤ maxLen) (hc1 : (s[0]).toNat < 128) : Calls Tryd.prog 39 #[.string s] w (nextPost s w) := by
  have hs2 := hs; unfold maxLen at hs2
  have E : Hid (nextS s = (s[0].toNat, 1)) := Lib.hid (by unfold nextS; rw [← bN_get s 0 h0]; exact nextOf_asc hc1)
  go_enter Tryd.func39, Tryd.ntmps39
  go_wp2
  go_ret2
  exact ⟨ret_pair E.out rfl rfl, rfl⟩
set_option maxHeartbeats 1000000 in
theorem next_lead (h0 : 0 < s.size) (hs : s.size ≤ maxLen) (hc : (128 ≤ (s[0]).toNat ∧ s[0].toNat < 192) ∨ 248 ≤ s[0].toNat) : Calls Tryd.prog 39 #[.string s] w (nextPost s w) := by
  have hs2 := hs; unfold maxLen at hs2
  have u0 : s[0].toNat < 256 := UInt8.toNat_lt _
  have E : Hid (nextS s = (0, 0)) := Lib.hid (by unfold nextS; rw [← bN_get s 0 h0]; exact nextOf_lead hc u0)
  rcases hc with ⟨hc1, hc2⟩ | hc1
  all_goals
    go_enter Tryd.func39, Tryd.ntmps39
    go_wp2
    go_ret2
    exact ⟨ret_pair E.out rfl rfl, rfl⟩
set_option maxHeartbeats 1000000 in
theorem next_short (h0 : 0 < s.size) (hs : s.size ≤ maxLen) (hc : (192 ≤ s[0].toNat ∧ s[0].toNat < 224 ∧ s.size < 2) ∨ (224 ≤ s[0].toNat ∧ s[0].toNat < 240 ∧ s.size < 3) ∨ (240 ≤ s[0].toNat ∧ s[0].toNat < 248 ∧ s.size < 4)) : Calls Tryd.prog 39 #[.string s] w (nextPost s w) := by
  unfold maxLen at hs
  have u0 : s[0].toNat < 256 := UInt8.toNat_lt _
  have E : Hid (nextS s = (0, 0)) := Lib.hid (by unfold nextS; rw [← bN_get s 0 h0]; exact nextOf_short hc)
  rcases hc with ⟨hc1, hc2, hc3⟩ | ⟨hc1, hc2, hc3⟩ | ⟨hc1, hc2, hc3⟩
  all_goals
    go_enter Tryd.func39, Tryd.ntmps39
    go_wp2
    go_ret2
    exact ⟨ret_pair E.out rfl rfl, rfl⟩
set_option maxHeartbeats 2000000 in
theorem next2 (hn : 2 ≤ s.size) (hs : s.size ≤ maxLen) (hc1 : 192 ≤ (s[0]'(by omega)).toNat) (hc2 : (s[0]'(by omega)).toNat < 224) : Calls Tryd.prog 39 #[.string s] w (nextPost s w) := by
  unfold maxLen at hs
  have h0 : 0 < s.size := by omega
  have h1 : 1 < s.size := by omega
  have u0 : s[0].toNat < 256 := UInt8.toNat_lt _
  have u1 : s[1].toNat < 256 := UInt8.toNat_lt _
  have E : Hid (nextS s = if contN s[1].toNat then finN 128 (64 * (s[0].toNat - 192) + (s[1].toNat - 128)) 2 else (0, 0)) :=
    Lib.hid (by unfold nextS; rw [← bN_get s 0 h0, ← bN_get s 1 h1]; exact nextOf_2 ⟨hc1, hc2⟩ hn u1)
  have a0 : decide ((s[0].toNat : Int) < 128) = false := decide_eq_false (by omega)
  have a224 : decide ((s[0].toNat : Int) < 224) = true := decide_eq_true (by omega)
  have az : decide ((s.size : Int) < 2) = false := decide_eq_false (by omega)
  go_enter Tryd.func39, Tryd.ntmps39
  go_wp2
  go_loop [6, 8] (fun p i => nextR2 (s[0].toNat : Int) (s[1].toNat : Int) p i) (fun _ i => 2 - (intOf i).toNat)
  case atStart => exact Or.inl ⟨rfl, rfl⟩
  case round =>
    unfold nextR2 at hrel
    rcases hrel with ⟨rfl, rfl⟩ | ⟨rfl, d1, e1, rfl⟩
    · by_cases k : contN s[1].toNat
      · obtain ⟨k1, k2⟩ := k
        go_wp2
        go_round
        case rel => unfold nextR2; exact Or.inr ⟨rfl, by omega, by omega, rfl⟩
        case measure => simp [intOf]
      · have K : Hid (¬ (contN s[1].toNat)) := Lib.hid (by intro h; exact k h)
        rcases (by unfold contN at k; omega : s[1].toNat < 128 ∨ 191 < s[1].toNat) with k1 | k1
        all_goals
          clear k
          go_wp2
          go_ret2
          exact ⟨ret_pair (E.out.trans (if_neg K.out)) rfl rfl, rfl⟩
    · have K : Hid (contN s[1].toNat) := Lib.hid (by unfold contN; omega)
      rcases (by omega : (64 * (s[0].toNat - 192) + (s[1].toNat - 128)) < 128 ∨ (55296 ≤ (64 * (s[0].toNat - 192) + (s[1].toNat - 128)) ∧ (64 * (s[0].toNat - 192) + (s[1].toNat - 128)) ≤ 57343) ∨ 1114111 < (64 * (s[0].toNat - 192) + (s[1].toNat - 128)) ∨ (¬ (64 * (s[0].toNat - 192) + (s[1].toNat - 128)) < 128 ∧ (64 * (s[0].toNat - 192) + (s[1].toNat - 128)) < 55296) ∨ (¬ (64 * (s[0].toNat - 192) + (s[1].toNat - 128)) < 128 ∧ 57343 < (64 * (s[0].toNat - 192) + (s[1].toNat - 128)) ∧ (64 * (s[0].toNat - 192) + (s[1].toNat - 128)) ≤ 1114111)) with k | k | k | k | k
      · have F : Hid (nextS s = (0, 0)) := Lib.hid ((E.out.trans (if_pos K.out)).trans (finN_bad (by omega)))
        have k' : (64 * ((s[0].toNat : Int) - 192) + (s[1].toNat : Int) - 128) < 128 := by omega
        clear k
        go_wp2
        all_goals (go_ret2; exact ⟨ret_pair F.out rfl rfl, rfl⟩)
      · have F : Hid (nextS s = (0, 0)) := Lib.hid ((E.out.trans (if_pos K.out)).trans (finN_bad (by omega)))
        have k' : 55296 ≤ (64 * ((s[0].toNat : Int) - 192) + (s[1].toNat : Int) - 128) := by omega
        have k2 : (64 * ((s[0].toNat : Int) - 192) + (s[1].toNat : Int) - 128) ≤ 57343 := by omega
        clear k
        go_wp2
        all_goals (go_ret2; exact ⟨ret_pair F.out rfl rfl, rfl⟩)
      · have F : Hid (nextS s = (0, 0)) := Lib.hid ((E.out.trans (if_pos K.out)).trans (finN_bad (by omega)))
        have k' : 1114111 < (64 * ((s[0].toNat : Int) - 192) + (s[1].toNat : Int) - 128) := by omega
        clear k
        go_wp2
        all_goals (go_ret2; exact ⟨ret_pair F.out rfl rfl, rfl⟩)
      · have F : Hid (nextS s = ((64 * (s[0].toNat - 192) + (s[1].toNat - 128)), 2)) := Lib.hid ((E.out.trans (if_pos K.out)).trans (finN_ok (by omega)))
        have k' : ¬ (64 * ((s[0].toNat : Int) - 192) + (s[1].toNat : Int) - 128) < 128 := by omega
        have k2 : (64 * ((s[0].toNat : Int) - 192) + (s[1].toNat : Int) - 128) < 55296 := by omega
        clear k
        go_wp2
        all_goals (go_ret2; refine ⟨ret_pair F.out ?_ rfl, rfl⟩; go_light; simp only; omega)
      · have F : Hid (nextS s = ((64 * (s[0].toNat - 192) + (s[1].toNat - 128)), 2)) := Lib.hid ((E.out.trans (if_pos K.out)).trans (finN_ok (by omega)))
        have k' : ¬ (64 * ((s[0].toNat : Int) - 192) + (s[1].toNat : Int) - 128) < 128 := by omega
        have k2 : 57343 < (64 * ((s[0].toNat : Int) - 192) + (s[1].toNat : Int) - 128) := by omega
        have k3 : (64 * ((s[0].toNat : Int) - 192) + (s[1].toNat : Int) - 128) ≤ 1114111 := by omega
        clear k
        go_wp2
        all_goals (go_ret2; refine ⟨ret_pair F.out ?_ rfl, rfl⟩; go_light; simp only; omega)

end
end Go.Proofs.YtklkodifbdpihaaDoor
