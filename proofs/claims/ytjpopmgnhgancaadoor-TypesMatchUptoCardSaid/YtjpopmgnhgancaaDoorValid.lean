/- Valid texts and names, in the reference. No condition beyond what the theorems state. -/
import Derived.Test.YtjpopmgnhgancaaDoorChars
import Derived.Laws.AppendOwn
import Derived.OwnWalk
import Derived.Below
import Derived.Laws.OwnMore
import Derived.Deep.LoopGhost
import Derived.WalkSpells
namespace Go.Proofs.YtjpopmgnhgancaaDoor
open Go.RowKit Go.Lib
set_option maxRecDepth 100000
theorem ret_pair {a b : Int} {q r : Nat × Nat} (e : q = r) (h1 : a = r.1) (h2 : b = r.2) : Ending.returned (.tuple #[.int .i64 a, .int .i64 b]) = .returned (.tuple #[.int .i64 q.1, .int .i64 q.2]) := by rw [h1, h2, e]


def nextR2 (c0 c1 : Int) (p i : Value) : Prop := (i = .int .i64 1 ∧ p = .int .i64 (c0 - 192)) ∨ (i = .int .i64 2 ∧ 128 ≤ c1 ∧ c1 ≤ 191 ∧ p = .int .i64 (64 * (c0 - 192) + c1 - 128))
def nextR3 (c0 c1 c2 : Int) (p i : Value) : Prop := (i = .int .i64 1 ∧ p = .int .i64 (c0 - 224)) ∨ (i = .int .i64 2 ∧ 128 ≤ c1 ∧ c1 ≤ 191 ∧ p = .int .i64 (64 * (c0 - 224) + c1 - 128)) ∨
  (i = .int .i64 3 ∧ 128 ≤ c1 ∧ c1 ≤ 191 ∧ 128 ≤ c2 ∧ c2 ≤ 191 ∧ p = .int .i64 (64 * (64 * (c0 - 224) + c1 - 128) + c2 - 128))
def nextR4 (c0 c1 c2 c3 : Int) (p i : Value) : Prop := (i = .int .i64 1 ∧ p = .int .i64 (c0 - 240)) ∨ (i = .int .i64 2 ∧ 128 ≤ c1 ∧ c1 ≤ 191 ∧ p = .int .i64 (64 * (c0 - 240) + c1 - 128)) ∨
  (i = .int .i64 3 ∧ 128 ≤ c1 ∧ c1 ≤ 191 ∧ 128 ≤ c2 ∧ c2 ≤ 191 ∧ p = .int .i64 (64 * (64 * (c0 - 240) + c1 - 128) + c2 - 128)) ∨
  (i = .int .i64 4 ∧ 128 ≤ c1 ∧ c1 ≤ 191 ∧ 128 ≤ c2 ∧ c2 ≤ 191 ∧ 128 ≤ c3 ∧ c3 ≤ 191 ∧ p = .int .i64 (64 * (64 * (64 * (c0 - 240) + c1 - 128) + c2 - 128) + c3 - 128))
section
variable (s : ByteArray) (w : World)
def nextPost (s : ByteArray) (w : World) (e : Ending) (w' : World) : Prop := e = .returned (.tuple #[.int .i64 (nextS s).1, .int .i64 (nextS s).2]) ∧ w = w'

set_option maxHeartbeats 1000000 in
theorem next_asc (h0 : 0 < s.size) (hs : s.size ≤ maxLen) (hc1 : (s[0]).toNat < 128) : Calls Tryd.prog 68 #[.string s] w (nextPost s w) := by
  have hs2 := hs; unfold maxLen at hs2
  have E : Hid (nextS s = (s[0].toNat, 1)) := Lib.hid (by unfold nextS; rw [← bN_get s 0 h0]; exact nextOf_asc hc1)
  go_enter Tryd.func68, Tryd.ntmps68
  go_wp2
  go_ret2
  exact ⟨ret_pair E.out rfl rfl, rfl⟩
set_option maxHeartbeats 1000000 in
theorem next_lead (h0 : 0 < s.size) (hs : s.size ≤ maxLen) (hc : (128 ≤ (s[0]).toNat ∧ s[0].toNat < 192) ∨ 248 ≤ s[0].toNat) : Calls Tryd.prog 68 #[.string s] w (nextPost s w) := by
  have hs2 := hs; unfold maxLen at hs2
  have u0 : s[0].toNat < 256 := UInt8.toNat_lt _
  have E : Hid (nextS s = (0, 0)) := Lib.hid (by unfold nextS; rw [← bN_get s 0 h0]; exact nextOf_lead hc u0)
  rcases hc with ⟨hc1, hc2⟩ | hc1
  all_goals
    go_enter Tryd.func68, Tryd.ntmps68
    go_wp2
    go_ret2
    exact ⟨ret_pair E.out rfl rfl, rfl⟩
set_option maxHeartbeats 1000000 in
theorem next_short (h0 : 0 < s.size) (hs : s.size ≤ maxLen) (hc : (192 ≤ s[0].toNat ∧ s[0].toNat < 224 ∧ s.size < 2) ∨ (224 ≤ s[0].toNat ∧ s[0].toNat < 240 ∧ s.size < 3) ∨ (240 ≤ s[0].toNat ∧ s[0].toNat < 248 ∧ s.size < 4)) : Calls Tryd.prog 68 #[.string s] w (nextPost s w) := by
  unfold maxLen at hs
  have u0 : s[0].toNat < 256 := UInt8.toNat_lt _
  have E : Hid (nextS s = (0, 0)) := Lib.hid (by unfold nextS; rw [← bN_get s 0 h0]; exact nextOf_short hc)
  rcases hc with ⟨hc1, hc2, hc3⟩ | ⟨hc1, hc2, hc3⟩ | ⟨hc1, hc2, hc3⟩
  all_goals
    go_enter Tryd.func68, Tryd.ntmps68
    go_wp2
    go_ret2
    exact ⟨ret_pair E.out rfl rfl, rfl⟩
set_option maxHeartbeats 2000000 in
theorem next2 (hn : 2 ≤ s.size) (hs : s.size ≤ maxLen) (hc1 : 192 ≤ (s[0]'(by omega)).toNat) (hc2 : (s[0]'(by omega)).toNat < 224) : Calls Tryd.prog 68 #[.string s] w (nextPost s w) := by
  unfold maxLen at hs
  have h0 : 0 < s.size := by omega
  have h1 : 1 < s.size := by omega
  have u0 : s[0].toNat < 256 := UInt8.toNat_lt _
  have u1 : s[1].toNat < 256 := UInt8.toNat_lt _
  have E : Hid (nextS s = if contN s[1].toNat then finN 128 (64 * (s[0].toNat - 192) + (s[1].toNat - 128)) 2 else (0, 0)) :=
    Lib.hid (by unfold nextS; rw [← bN_get s 0 h0, ← bN_get s 1 h1]; exact nextOf_2 ⟨hc1, hc2⟩ hn u1)
  have a0 : decide ((s[0].toNat : Int) < 128) = false := decide_eq_false (by omega)
  have a224 : decide ((s[0].toNat : Int) < 224) = true := decide_eq_true (by omega)
  have az : decide ((s.size : Int) < 2) = false := decide_eq_false (by omega)
  go_enter Tryd.func68, Tryd.ntmps68
  go_wp2
  go_loop [6, 8] (fun p i => nextR2 (s[0].toNat : Int) (s[1].toNat : Int) p i) (fun _ i => 2 - (intOf i).toNat)
  case atStart => exact Or.inl ⟨rfl, rfl⟩
  case round =>
    unfold nextR2 at hrel
    rcases hrel with ⟨rfl, rfl⟩ | ⟨rfl, d1, e1, rfl⟩
    · by_cases k : contN s[1].toNat
      · obtain ⟨k1, k2⟩ := k
        go_wp2
        go_round
        case rel => unfold nextR2; exact Or.inr ⟨rfl, by omega, by omega, rfl⟩
        case measure => simp [intOf]
      · have K : Hid (¬ (contN s[1].toNat)) := Lib.hid (by intro h; exact k h)
        rcases (by unfold contN at k; omega : s[1].toNat < 128 ∨ 191 < s[1].toNat) with k1 | k1
        all_goals
          clear k
          go_wp2
          go_ret2
          exact ⟨ret_pair (E.out.trans (if_neg K.out)) rfl rfl, rfl⟩
    · have K : Hid (contN s[1].toNat) := Lib.hid (by unfold contN; omega)
      rcases (by omega : (64 * (s[0].toNat - 192) + (s[1].toNat - 128)) < 128 ∨ (55296 ≤ (64 * (s[0].toNat - 192) + (s[1].toNat - 128)) ∧ (64 * (s[0].toNat - 192) + (s[1].toNat - 128)) ≤ 57343) ∨ 1114111 < (64 * (s[0].toNat - 192) + (s[1].toNat - 128)) ∨ (¬ (64 * (s[0].toNat - 192) + (s[1].toNat - 128)) < 128 ∧ (64 * (s[0].toNat - 192) + (s[1].toNat - 128)) < 55296) ∨ (¬ (64 * (s[0].toNat - 192) + (s[1].toNat - 128)) < 128 ∧ 57343 < (64 * (s[0].toNat - 192) + (s[1].toNat - 128)) ∧ (64 * (s[0].toNat - 192) + (s[1].toNat - 128)) ≤ 1114111)) with k | k | k | k | k
      · have F : Hid (nextS s = (0, 0)) := Lib.hid ((E.out.trans (if_pos K.out)).trans (finN_bad (by omega)))
        have k' : (64 * ((s[0].toNat : Int) - 192) + (s[1].toNat : Int) - 128) < 128 := by omega
        clear k
        go_wp2
        all_goals (go_ret2; exact ⟨ret_pair F.out rfl rfl, rfl⟩)
      · have F : Hid (nextS s = (0, 0)) := Lib.hid ((E.out.trans (if_pos K.out)).trans (finN_bad (by omega)))
        have k' : 55296 ≤ (64 * ((s[0].toNat : Int) - 192) + (s[1].toNat : Int) - 128) := by omega
        have k2 : (64 * ((s[0].toNat : Int) - 192) + (s[1].toNat : Int) - 128) ≤ 57343 := by omega
        clear k
        go_wp2
        all_goals (go_ret2; exact ⟨ret_pair F.out rfl rfl, rfl⟩)
      · have F : Hid (nextS s = (0, 0)) := Lib.hid ((E.out.trans (if_pos K.out)).trans (finN_bad (by omega)))
        have k' : 1114111 < (64 * ((s[0].toNat : Int) - 192) + (s[1].toNat : Int) - 128) := by omega
        clear k
        go_wp2
        all_goals (go_ret2; exact ⟨ret_pair F.out rfl rfl, rfl⟩)
      · have F : Hid (nextS s = ((64 * (s[0].toNat - 192) + (s[1].toNat - 128)), 2)) := Lib.hid ((E.out.trans (if_pos K.out)).trans (finN_ok (by omega)))
        have k' : ¬ (64 * ((s[0].toNat : Int) - 192) + (s[1].toNat : Int) - 128) < 128 := by omega
        have k2 : (64 * ((s[0].toNat : Int) - 192) + (s[1].toNat : Int) - 128) < 55296 := by omega
        clear k
        go_wp2
        all_goals (go_ret2; refine ⟨ret_pair F.out ?_ rfl, rfl⟩; go_light; simp only; omega)
      · have F : Hid (nextS s = ((64 * (s[0].toNat - 192) + (s[1].toNat - 128)), 2)) := Lib.hid ((E.out.trans (if_pos K.out)).trans (finN_ok (by omega)))
        have k' : ¬ (64 * ((s[0].toNat : Int) - 192) + (s[1].toNat : Int) - 128) < 128 := by omega
        have k2 : 57343 < (64 * ((s[0].toNat : Int) - 192) + (s[1].toNat : Int) - 128) := by omega
        have k3 : (64 * ((s[0].toNat : Int) - 192) + (s[1].toNat : Int) - 128) ≤ 1114111 := by omega
        clear k
        go_wp2
        all_goals (go_ret2; refine ⟨ret_pair F.out ?_ rfl, rfl⟩; go_light; simp only; omega)

end
end Go.Proofs.YtjpopmgnhgancaaDoor
namespace Go.Proofs.YtjpopmgnhgancaaDoor
open Go.RowKit Go.Lib
set_option maxRecDepth 100000
section
variable (s : ByteArray) (w : World)
set_option maxHeartbeats 2000000 in
theorem next3 (hn : 3 ≤ s.size) (hs : s.size ≤ maxLen) (hc1 : 224 ≤ (s[0]'(by omega)).toNat) (hc2 : (s[0]'(by omega)).toNat < 240) : Calls Tryd.prog 68 #[.string s] w (nextPost s w) := by
  unfold maxLen at hs
  have h0 : 0 < s.size := by omega
  have h1 : 1 < s.size := by omega
  have h2 : 2 < s.size := by omega
  have u0 : s[0].toNat < 256 := UInt8.toNat_lt _
  have u1 : s[1].toNat < 256 := UInt8.toNat_lt _
  have u2 : s[2].toNat < 256 := UInt8.toNat_lt _
  have E : Hid (nextS s = if contN s[1].toNat ∧ contN s[2].toNat then finN 2048 (64 * (64 * (s[0].toNat - 224) + (s[1].toNat - 128)) + (s[2].toNat - 128)) 3 else (0, 0)) :=
    Lib.hid (by unfold nextS; rw [← bN_get s 0 h0, ← bN_get s 1 h1, ← bN_get s 2 h2]; exact nextOf_3 ⟨hc1, hc2⟩ hn u1 u2)
  have a0 : decide ((s[0].toNat : Int) < 128) = false := decide_eq_false (by omega)
  have a224 : decide ((s[0].toNat : Int) < 224) = false := decide_eq_false (by omega)
  have a240 : decide ((s[0].toNat : Int) < 240) = true := decide_eq_true (by omega)
  have az : decide ((s.size : Int) < 3) = false := decide_eq_false (by omega)
  go_enter Tryd.func68, Tryd.ntmps68
  go_wp2
  go_loop [6, 8] (fun p i => nextR3 (s[0].toNat : Int) (s[1].toNat : Int) (s[2].toNat : Int) p i) (fun _ i => 3 - (intOf i).toNat)
  case atStart => exact Or.inl ⟨rfl, rfl⟩
  case round =>
    unfold nextR3 at hrel
    rcases hrel with ⟨rfl, rfl⟩ | ⟨rfl, d1, e1, rfl⟩ | ⟨rfl, d1, e1, d2, e2, rfl⟩
    · by_cases k : contN s[1].toNat
      · obtain ⟨k1, k2⟩ := k
        go_wp2
        go_round
        case rel => unfold nextR3; exact Or.inr (Or.inl ⟨rfl, by omega, by omega, rfl⟩)
        case measure => simp [intOf]
      · have K : Hid (¬ (contN s[1].toNat ∧ contN s[2].toNat)) := Lib.hid (by intro h; exact k h.1)
        rcases (by unfold contN at k; omega : s[1].toNat < 128 ∨ 191 < s[1].toNat) with k1 | k1
        all_goals
          clear k
          go_wp2
          go_ret2
          exact ⟨ret_pair (E.out.trans (if_neg K.out)) rfl rfl, rfl⟩
    · by_cases k : contN s[2].toNat
      · obtain ⟨k1, k2⟩ := k
        go_wp2
        go_round
        case rel => unfold nextR3; exact Or.inr (Or.inr ⟨rfl, by omega, by omega, by omega, by omega, rfl⟩)
        case measure => simp [intOf]
      · have K : Hid (¬ (contN s[1].toNat ∧ contN s[2].toNat)) := Lib.hid (by intro h; exact k h.2)
        rcases (by unfold contN at k; omega : s[2].toNat < 128 ∨ 191 < s[2].toNat) with k1 | k1
        all_goals
          clear k
          go_wp2
          go_ret2
          exact ⟨ret_pair (E.out.trans (if_neg K.out)) rfl rfl, rfl⟩
    · have K : Hid (contN s[1].toNat ∧ contN s[2].toNat) := Lib.hid (by unfold contN; omega)
      rcases (by omega : (64 * (64 * (s[0].toNat - 224) + (s[1].toNat - 128)) + (s[2].toNat - 128)) < 2048 ∨ (55296 ≤ (64 * (64 * (s[0].toNat - 224) + (s[1].toNat - 128)) + (s[2].toNat - 128)) ∧ (64 * (64 * (s[0].toNat - 224) + (s[1].toNat - 128)) + (s[2].toNat - 128)) ≤ 57343) ∨ 1114111 < (64 * (64 * (s[0].toNat - 224) + (s[1].toNat - 128)) + (s[2].toNat - 128)) ∨ (¬ (64 * (64 * (s[0].toNat - 224) + (s[1].toNat - 128)) + (s[2].toNat - 128)) < 2048 ∧ (64 * (64 * (s[0].toNat - 224) + (s[1].toNat - 128)) + (s[2].toNat - 128)) < 55296) ∨ (¬ (64 * (64 * (s[0].toNat - 224) + (s[1].toNat - 128)) + (s[2].toNat - 128)) < 2048 ∧ 57343 < (64 * (64 * (s[0].toNat - 224) + (s[1].toNat - 128)) + (s[2].toNat - 128)) ∧ (64 * (64 * (s[0].toNat - 224) + (s[1].toNat - 128)) + (s[2].toNat - 128)) ≤ 1114111)) with k | k | k | k | k
      · have F : Hid (nextS s = (0, 0)) := Lib.hid ((E.out.trans (if_pos K.out)).trans (finN_bad (by omega)))
        have k' : (64 * (64 * ((s[0].toNat : Int) - 224) + (s[1].toNat : Int) - 128) + (s[2].toNat : Int) - 128) < 2048 := by omega
        clear k
        go_wp2
        all_goals (go_ret2; exact ⟨ret_pair F.out rfl rfl, rfl⟩)
      · have F : Hid (nextS s = (0, 0)) := Lib.hid ((E.out.trans (if_pos K.out)).trans (finN_bad (by omega)))
        have k' : 55296 ≤ (64 * (64 * ((s[0].toNat : Int) - 224) + (s[1].toNat : Int) - 128) + (s[2].toNat : Int) - 128) := by omega
        have k2 : (64 * (64 * ((s[0].toNat : Int) - 224) + (s[1].toNat : Int) - 128) + (s[2].toNat : Int) - 128) ≤ 57343 := by omega
        clear k
        go_wp2
        all_goals (go_ret2; exact ⟨ret_pair F.out rfl rfl, rfl⟩)
      · have F : Hid (nextS s = (0, 0)) := Lib.hid ((E.out.trans (if_pos K.out)).trans (finN_bad (by omega)))
        have k' : 1114111 < (64 * (64 * ((s[0].toNat : Int) - 224) + (s[1].toNat : Int) - 128) + (s[2].toNat : Int) - 128) := by omega
        clear k
        go_wp2
        all_goals (go_ret2; exact ⟨ret_pair F.out rfl rfl, rfl⟩)
      · have F : Hid (nextS s = ((64 * (64 * (s[0].toNat - 224) + (s[1].toNat - 128)) + (s[2].toNat - 128)), 3)) := Lib.hid ((E.out.trans (if_pos K.out)).trans (finN_ok (by omega)))
        have k' : ¬ (64 * (64 * ((s[0].toNat : Int) - 224) + (s[1].toNat : Int) - 128) + (s[2].toNat : Int) - 128) < 2048 := by omega
        have k2 : (64 * (64 * ((s[0].toNat : Int) - 224) + (s[1].toNat : Int) - 128) + (s[2].toNat : Int) - 128) < 55296 := by omega
        clear k
        go_wp2
        all_goals (go_ret2; refine ⟨ret_pair F.out ?_ rfl, rfl⟩; go_light; simp only; omega)
      · have F : Hid (nextS s = ((64 * (64 * (s[0].toNat - 224) + (s[1].toNat - 128)) + (s[2].toNat - 128)), 3)) := Lib.hid ((E.out.trans (if_pos K.out)).trans (finN_ok (by omega)))
        have k' : ¬ (64 * (64 * ((s[0].toNat : Int) - 224) + (s[1].toNat : Int) - 128) + (s[2].toNat : Int) - 128) < 2048 := by omega
        have k2 : 57343 < (64 * (64 * ((s[0].toNat : Int) - 224) + (s[1].toNat : Int) - 128) + (s[2].toNat : Int) - 128) := by omega
        have k3 : (64 * (64 * ((s[0].toNat : Int) - 224) + (s[1].toNat : Int) - 128) + (s[2].toNat : Int) - 128) ≤ 1114111 := by omega
        clear k
        go_wp2
        all_goals (go_ret2; refine ⟨ret_pair F.out ?_ rfl, rfl⟩; go_light; simp only; omega)

end
end Go.Proofs.YtjpopmgnhgancaaDoor
namespace Go.Proofs.YtjpopmgnhgancaaDoor
open Go.RowKit Go.Lib
set_option maxRecDepth 100000
section
variable (s : ByteArray) (w : World)
set_option maxHeartbeats 2000000 in
theorem next4 (hn : 4 ≤ s.size) (hs : s.size ≤ maxLen) (hc1 : 240 ≤ (s[0]'(by omega)).toNat) (hc2 : (s[0]'(by omega)).toNat < 248) : Calls Tryd.prog 68 #[.string s] w (nextPost s w) := by
  unfold maxLen at hs
  have h0 : 0 < s.size := by omega
  have h1 : 1 < s.size := by omega
  have h2 : 2 < s.size := by omega
  have h3 : 3 < s.size := by omega
  have u0 : s[0].toNat < 256 := UInt8.toNat_lt _
  have u1 : s[1].toNat < 256 := UInt8.toNat_lt _
  have u2 : s[2].toNat < 256 := UInt8.toNat_lt _
  have u3 : s[3].toNat < 256 := UInt8.toNat_lt _
  have E : Hid (nextS s = if contN s[1].toNat ∧ contN s[2].toNat ∧ contN s[3].toNat then finN 65536 (64 * (64 * (64 * (s[0].toNat - 240) + (s[1].toNat - 128)) + (s[2].toNat - 128)) + (s[3].toNat - 128)) 4 else (0, 0)) :=
    Lib.hid (by unfold nextS; rw [← bN_get s 0 h0, ← bN_get s 1 h1, ← bN_get s 2 h2, ← bN_get s 3 h3]; exact nextOf_4 ⟨hc1, hc2⟩ hn u1 u2 u3)
  have a0 : decide ((s[0].toNat : Int) < 128) = false := decide_eq_false (by omega)
  have a224 : decide ((s[0].toNat : Int) < 224) = false := decide_eq_false (by omega)
  have a240 : decide ((s[0].toNat : Int) < 240) = false := decide_eq_false (by omega)
  have a248 : decide ((s[0].toNat : Int) < 248) = true := decide_eq_true (by omega)
  have az : decide ((s.size : Int) < 4) = false := decide_eq_false (by omega)
  go_enter Tryd.func68, Tryd.ntmps68
  go_wp2
  go_loop [6, 8] (fun p i => nextR4 (s[0].toNat : Int) (s[1].toNat : Int) (s[2].toNat : Int) (s[3].toNat : Int) p i) (fun _ i => 4 - (intOf i).toNat)
  case atStart => exact Or.inl ⟨rfl, rfl⟩
  case round =>
    unfold nextR4 at hrel
    rcases hrel with ⟨rfl, rfl⟩ | ⟨rfl, d1, e1, rfl⟩ | ⟨rfl, d1, e1, d2, e2, rfl⟩ | ⟨rfl, d1, e1, d2, e2, d3, e3, rfl⟩
    · by_cases k : contN s[1].toNat
      · obtain ⟨k1, k2⟩ := k
        go_wp2
        go_round
        case rel => unfold nextR4; exact Or.inr (Or.inl ⟨rfl, by omega, by omega, rfl⟩)
        case measure => simp [intOf]
      · have K : Hid (¬ (contN s[1].toNat ∧ contN s[2].toNat ∧ contN s[3].toNat)) := Lib.hid (by intro h; exact k h.1)
        rcases (by unfold contN at k; omega : s[1].toNat < 128 ∨ 191 < s[1].toNat) with k1 | k1
        all_goals
          clear k
          go_wp2
          go_ret2
          exact ⟨ret_pair (E.out.trans (if_neg K.out)) rfl rfl, rfl⟩
    · by_cases k : contN s[2].toNat
      · obtain ⟨k1, k2⟩ := k
        go_wp2
        go_round
        case rel => unfold nextR4; exact Or.inr (Or.inr (Or.inl ⟨rfl, by omega, by omega, by omega, by omega, rfl⟩))
        case measure => simp [intOf]
      · have K : Hid (¬ (contN s[1].toNat ∧ contN s[2].toNat ∧ contN s[3].toNat)) := Lib.hid (by intro h; exact k h.2.1)
        rcases (by unfold contN at k; omega : s[2].toNat < 128 ∨ 191 < s[2].toNat) with k1 | k1
        all_goals
          clear k
          go_wp2
          go_ret2
          exact ⟨ret_pair (E.out.trans (if_neg K.out)) rfl rfl, rfl⟩
    · by_cases k : contN s[3].toNat
      · obtain ⟨k1, k2⟩ := k
        go_wp2
        go_round
        case rel => unfold nextR4; exact Or.inr (Or.inr (Or.inr ⟨rfl, by omega, by omega, by omega, by omega, by omega, by omega, rfl⟩))
        case measure => simp [intOf]
      · have K : Hid (¬ (contN s[1].toNat ∧ contN s[2].toNat ∧ contN s[3].toNat)) := Lib.hid (by intro h; exact k h.2.2)
        rcases (by unfold contN at k; omega : s[3].toNat < 128 ∨ 191 < s[3].toNat) with k1 | k1
        all_goals
          clear k
          go_wp2
          go_ret2
          exact ⟨ret_pair (E.out.trans (if_neg K.out)) rfl rfl, rfl⟩
    · have K : Hid (contN s[1].toNat ∧ contN s[2].toNat ∧ contN s[3].toNat) := Lib.hid (by unfold contN; omega)
      rcases (by omega : (64 * (64 * (64 * (s[0].toNat - 240) + (s[1].toNat - 128)) + (s[2].toNat - 128)) + (s[3].toNat - 128)) < 65536 ∨ (55296 ≤ (64 * (64 * (64 * (s[0].toNat - 240) + (s[1].toNat - 128)) + (s[2].toNat - 128)) + (s[3].toNat - 128)) ∧ (64 * (64 * (64 * (s[0].toNat - 240) + (s[1].toNat - 128)) + (s[2].toNat - 128)) + (s[3].toNat - 128)) ≤ 57343) ∨ 1114111 < (64 * (64 * (64 * (s[0].toNat - 240) + (s[1].toNat - 128)) + (s[2].toNat - 128)) + (s[3].toNat - 128)) ∨ (¬ (64 * (64 * (64 * (s[0].toNat - 240) + (s[1].toNat - 128)) + (s[2].toNat - 128)) + (s[3].toNat - 128)) < 65536 ∧ (64 * (64 * (64 * (s[0].toNat - 240) + (s[1].toNat - 128)) + (s[2].toNat - 128)) + (s[3].toNat - 128)) < 55296) ∨ (¬ (64 * (64 * (64 * (s[0].toNat - 240) + (s[1].toNat - 128)) + (s[2].toNat - 128)) + (s[3].toNat - 128)) < 65536 ∧ 57343 < (64 * (64 * (64 * (s[0].toNat - 240) + (s[1].toNat - 128)) + (s[2].toNat - 128)) + (s[3].toNat - 128)) ∧ (64 * (64 * (64 * (s[0].toNat - 240) + (s[1].toNat - 128)) + (s[2].toNat - 128)) + (s[3].toNat - 128)) ≤ 1114111)) with k | k | k | k | k
      · have F : Hid (nextS s = (0, 0)) := Lib.hid ((E.out.trans (if_pos K.out)).trans (finN_bad (by omega)))
        have k' : (64 * (64 * (64 * ((s[0].toNat : Int) - 240) + (s[1].toNat : Int) - 128) + (s[2].toNat : Int) - 128) + (s[3].toNat : Int) - 128) < 65536 := by omega
        clear k
        go_wp2
        all_goals (go_ret2; exact ⟨ret_pair F.out rfl rfl, rfl⟩)
      · have F : Hid (nextS s = (0, 0)) := Lib.hid ((E.out.trans (if_pos K.out)).trans (finN_bad (by omega)))
        have k' : 55296 ≤ (64 * (64 * (64 * ((s[0].toNat : Int) - 240) + (s[1].toNat : Int) - 128) + (s[2].toNat : Int) - 128) + (s[3].toNat : Int) - 128) := by omega
        have k2 : (64 * (64 * (64 * ((s[0].toNat : Int) - 240) + (s[1].toNat : Int) - 128) + (s[2].toNat : Int) - 128) + (s[3].toNat : Int) - 128) ≤ 57343 := by omega
        clear k
        go_wp2
        all_goals (go_ret2; exact ⟨ret_pair F.out rfl rfl, rfl⟩)
      · have F : Hid (nextS s = (0, 0)) := Lib.hid ((E.out.trans (if_pos K.out)).trans (finN_bad (by omega)))
        have k' : 1114111 < (64 * (64 * (64 * ((s[0].toNat : Int) - 240) + (s[1].toNat : Int) - 128) + (s[2].toNat : Int) - 128) + (s[3].toNat : Int) - 128) := by omega
        clear k
        go_wp2
        all_goals (go_ret2; exact ⟨ret_pair F.out rfl rfl, rfl⟩)
      · have F : Hid (nextS s = ((64 * (64 * (64 * (s[0].toNat - 240) + (s[1].toNat - 128)) + (s[2].toNat - 128)) + (s[3].toNat - 128)), 4)) := Lib.hid ((E.out.trans (if_pos K.out)).trans (finN_ok (by omega)))
        have k' : ¬ (64 * (64 * (64 * ((s[0].toNat : Int) - 240) + (s[1].toNat : Int) - 128) + (s[2].toNat : Int) - 128) + (s[3].toNat : Int) - 128) < 65536 := by omega
        have k2 : (64 * (64 * (64 * ((s[0].toNat : Int) - 240) + (s[1].toNat : Int) - 128) + (s[2].toNat : Int) - 128) + (s[3].toNat : Int) - 128) < 55296 := by omega
        clear k
        go_wp2
        all_goals (go_ret2; refine ⟨ret_pair F.out ?_ rfl, rfl⟩; go_light; simp only; omega)
      · have F : Hid (nextS s = ((64 * (64 * (64 * (s[0].toNat - 240) + (s[1].toNat - 128)) + (s[2].toNat - 128)) + (s[3].toNat - 128)), 4)) := Lib.hid ((E.out.trans (if_pos K.out)).trans (finN_ok (by omega)))
        have k' : ¬ (64 * (64 * (64 * ((s[0].toNat : Int) - 240) + (s[1].toNat : Int) - 128) + (s[2].toNat : Int) - 128) + (s[3].toNat : Int) - 128) < 65536 := by omega
        have k2 : 57343 < (64 * (64 * (64 * ((s[0].toNat : Int) - 240) + (s[1].toNat : Int) - 128) + (s[2].toNat : Int) - 128) + (s[3].toNat : Int) - 128) := by omega
        have k3 : (64 * (64 * (64 * ((s[0].toNat : Int) - 240) + (s[1].toNat : Int) - 128) + (s[2].toNat : Int) - 128) + (s[3].toNat : Int) - 128) ≤ 1114111 := by omega
        clear k
        go_wp2
        all_goals (go_ret2; refine ⟨ret_pair F.out ?_ rfl, rfl⟩; go_light; simp only; omega)

end
end Go.Proofs.YtjpopmgnhgancaaDoor
namespace Go.Proofs.YtjpopmgnhgancaaDoor
open Go.RowKit Go.Lib
set_option maxRecDepth 100000
theorem next_any (s : ByteArray) (w : World) (h0 : 0 < s.size) (hs : s.size ≤ maxLen) : Calls Tryd.prog 68 #[.string s] w (nextPost s w) := by
  have u0 : s[0].toNat < 256 := UInt8.toNat_lt _
  by_cases c1 : s[0].toNat < 128
  · exact next_asc s w h0 hs c1
  by_cases c2 : s[0].toNat < 192
  · exact next_lead s w h0 hs (.inl ⟨by omega, c2⟩)
  by_cases c3 : 248 ≤ s[0].toNat
  · exact next_lead s w h0 hs (.inr c3)
  by_cases c4 : s[0].toNat < 224
  · by_cases d : 2 ≤ s.size
    · exact next2 s w d hs (by omega) c4
    · exact next_short s w h0 hs (.inl ⟨by omega, c4, by omega⟩)
  by_cases c5 : s[0].toNat < 240
  · by_cases d : 3 ≤ s.size
    · exact next3 s w d hs (by omega) c5
    · exact next_short s w h0 hs (.inr (.inl ⟨by omega, c5, by omega⟩))
  by_cases d : 4 ≤ s.size
  · exact next4 s w d hs (by omega) (by omega)
  · exact next_short s w h0 hs (.inr (.inr ⟨by omega, by omega, by omega⟩))

def nextL (l : List UInt8) : Nat × Nat := if (decodeL l).1 = 65533 ∧ (decodeL l).2 = 1 then (0, 0) else decodeL l
theorem nextS_eq (s : ByteArray) : nextS s = nextL s.data.toList := by
  unfold nextS nextL nextOf
  rw [decodeL_N]
  unfold bN
  rw [show s.data.toList.length = s.size from by simp]
theorem extract_list (s : ByteArray) (p q : Nat) : (s.extract p q).data.toList = (s.data.toList.take q).drop p := by
  rw [ByteArray.data_extract, Array.toList_extract, List.extract_eq_take_drop, List.drop_take]
theorem extract_drop (s : ByteArray) (p : Nat) : (s.extract p s.size).data.toList = s.data.toList.drop p := by
  rw [extract_list, List.take_of_length_le (by simp)]
theorem next_drop (s : ByteArray) (p : Nat) : nextS (s.extract p s.size) = nextL (s.data.toList.drop p) := by rw [nextS_eq, extract_drop]
end Go.Proofs.YtjpopmgnhgancaaDoor
namespace Go.Proofs.YtjpopmgnhgancaaDoor
open Go.RowKit Go.Lib
set_option maxRecDepth 100000
theorem int_info : (Tryd.prog.info? 3).map (fun i => (i.zero, i.size, i.bytes)) = some (some (.int .i64 0), 1, 8) := by kernel_rfl
def cellsI (l : List Nat) : List Value := l.map fun (r : Nat) => Value.int .i64 (r : Int)
theorem cell_one_new (w : World) (x : Value) (t : TypeId) : ∀ j u, [x][j]? = some u → (w.alloc (.cells #[x] t)).cell? ((⟨w.heap.size, 0, none⟩ : Addr).add j) = some u := by
  intro j u hj
  match j, hj with
  | 0, hj => simp at hj; subst hj; simp [Addr.add]
  | (j + 1), hj => simp at hj
theorem cellsI_snoc (l : List Nat) (r : Nat) : cellsI (l ++ [r]) = cellsI l ++ [.int .i64 (r : Int)] := by simp [cellsI]
def ptsOut (B : Nat) (w : World) (l : List UInt8) (e : Ending) (w' : World) : Prop :=
  (validD l = true ∧ ∃ v, e = .returned (.tuple #[v, .bool true]) ∧ w'.ownsRow B 3 1 v (runes l).length (cellsI (runes l)) ∧ Below B w w') ∨
  (validD l = false ∧ e = .returned (.tuple #[.slice none 0 0, .bool false]) ∧ Below B w w')
set_option maxHeartbeats 1000000 in
theorem points_ref (s : ByteArray) (w : World) (hs : s.size ≤ 1099511627776) : Calls Tryd.prog 52 #[.string s] w (ptsOut w.heap.size w s.data.toList) := by
  obtain ⟨i0, hi, hz0, hz1, hz2⟩ := info_parts int_info
  obtain ⟨l, hl⟩ : ∃ l, s.data.toList = l := ⟨_, rfl⟩
  have hsz : s.size = l.length := by rw [← hl]; simp
  rw [hl]
  have HL := Lib.hid hl
  have HZ := Lib.hid hsz
  clear hl hsz
  go_enter Tryd.func52, Tryd.ntmps52
  go_wp2
  go_loopg [4, 5] s.size (fun gf s4 s5 wx => ∃ (pos : Nat) (pre : List Nat), s5 = .int .i64 pos ∧ pos ≤ s.size ∧ s.size ≤ pos + gf ∧ Hid (validD l = validD (l.drop pos)) ∧ Hid (runes l = pre ++ runes (l.drop pos)) ∧ pre.length ≤ pos ∧
      wx.ownsRow w.heap.size 3 1 s4 pre.length (cellsI pre) ∧ Below w.heap.size w wx)
  case atStart => exact ⟨0, [], rfl, by omega, by omega, Lib.hid rfl, Lib.hid rfl, by simp, ⟨rfl, .inl ⟨rfl, rfl⟩⟩, Below.refl _ _⟩
  case round =>
    obtain ⟨pos, pre, rfl, hp, hf, hv, hr, hle, hown, hb⟩ := hrel
    by_cases hlt : pos < s.size
    · have hne : l.drop pos ≠ [] := by
        intro h
        have := congrArg List.length h
        rw [List.length_drop, ← HZ.out] at this
        simp at this
        omega
      have hN : nextS (s.extract pos s.size) = nextL (l.drop pos) := by rw [next_drop, HL.out]
      have cN := next_any (s.extract pos s.size) wr (by simp; omega) (by unfold maxLen; simp; omega)
      unfold nextPost at cN
      rw [hN] at cN
      by_cases hbad : (decodeL (l.drop pos)).1 = 65533 ∧ (decodeL (l.drop pos)).2 = 1
      · have hV : Hid (validD l = false) := Lib.hid (by rw [hv.out, validD_step _ hne, if_pos hbad])
        have e0 : nextL (l.drop pos) = (0, 0) := by unfold nextL; rw [if_pos hbad]
        rw [e0] at cN
        clear hN hbad e0 hne
        have H := Lib.hid cN
        clear cN
        go_wp2_with (go_at_call 68; refine H.out.mono ?_; rintro e w' ⟨rfl, rfl⟩)
        go_ret2
        exact .inr ⟨hV.out, rfl, hb⟩
      · obtain ⟨R, hR⟩ : ∃ R, (decodeL (l.drop pos)).1 = R := ⟨_, rfl⟩
        obtain ⟨K, hK⟩ : ∃ K, (decodeL (l.drop pos)).2 = K := ⟨_, rfl⟩
        have hK1 : 1 ≤ K := by rw [← hK]; exact decodeL_width _
        have hK2 : pos + K ≤ s.size := by
          have := decodeL_le _ hne
          rw [hK, List.length_drop, ← HZ.out] at this
          omega
        have hR1 : R ≤ 1114111 := by rw [← hR]; exact decodeL_rune _
        have hV : Hid (validD l = validD (l.drop (pos + K))) := Lib.hid (by rw [hv.out, validD_step _ hne, if_neg hbad, List.drop_drop, hK])
        have hRR : Hid (runes l = (pre ++ [R]) ++ runes (l.drop (pos + K))) := Lib.hid (by rw [hr.out, runes_step _ hne, List.drop_drop, hK, hR]; simp)
        have e0 : nextL (l.drop pos) = (R, K) := by unfold nextL; rw [if_neg hbad, ← hR, ← hK]
        rw [e0] at cN
        clear hN hbad e0 hne hR hK hv hr
        have H := Lib.hid cN
        clear cN
        have k0 : ((K : Int) == 0) = false := by simp; omega
        obtain ⟨g', rfl⟩ : ∃ g', gk = g' + 1 := ⟨gk - 1, by omega⟩
        go_wp2_with (first
          | (go_at_call 68; refine H.out.mono ?_; rintro e w' ⟨rfl, rfl⟩)
          | (at_builtin; go_must (refine wpList_append_own _ rfl (.tmp 21) (.tmp 23) 93 rfl w.heap.size 3 i0 (.int .i64 0) 1 8 Tryd.underlying93 hi hz0 hz1 hz2 rfl (by decide) _ _ _ rfl (hown.alloc _) ⟨wr.heap.size, 0, none⟩ 1 1 [.int .i64 (R : Int)] rfl rfl (cell_one_new _ _ _) (by intro u hu; simp at hu; subst hu; rfl) (by unfold maxLen; omega) (by omega) (by have := hb.size; simp; omega) ?_; intro v3 w3 hown3 hgrow3 hnil3)))
        go_roundg g'
        case measure => omega
        case rel =>
          refine ⟨pos + K, pre ++ [R], by go_num, hK2, by omega, hV, hRR, by simp; omega, ?_, ?_⟩
          · rw [List.length_append, cellsI_snoc]; exact hown3
          · exact (hb.alloc hb.size _).grown hgrow3 (by have := hb.size; simp; omega) (fun j hj => (hown.lt j hj).1)
    · obtain rfl : pos = s.size := by omega
      have hnil : l.drop s.size = [] := List.drop_eq_nil_of_le (by rw [HZ.out]; omega)
      have hV : Hid (validD l = true) := Lib.hid (by rw [hv.out, hnil]; rfl)
      have hRR : Hid (runes l = pre) := Lib.hid (by rw [hr.out, hnil, runes_nil]; simp)
      clear hnil hv hr
      go_wp2
      go_ret2
      exact .inl ⟨hV.out, _, rfl, by rw [hRR.out]; exact hown, hb⟩
end Go.Proofs.YtjpopmgnhgancaaDoor
namespace Go.Proofs.YtjpopmgnhgancaaDoor
open Go.RowKit Go.Lib
set_option maxRecDepth 100000
def xmlN (r : Nat) : Bool := xmlB (r : Int)
def validX (l : List UInt8) : Bool := validD l && (runes l).all xmlN
theorem own_read {w : World} {B n : Nat} {v : Value} {xs : List Nat} (h : w.ownsRow B 3 1 v n (cellsI xs)) :
    ∃ A cap, v = .slice A n cap ∧ xs.length = n ∧ ∀ k, k < n → ∃ g, A = some ⟨g, 0, none⟩ ∧ w.cell? ⟨g, k, none⟩ = some (.int .i64 ((xs.getD k 0 : Nat) : Int)) := by
  have hl : xs.length = n := by have := h.1; simpa [cellsI] using this
  rcases h.2 with ⟨rfl, hn⟩ | ⟨g, cap, cur, rfl, hB, hh, hnc, hcm, hcs, hct⟩
  · subst hn; exact ⟨none, 0, rfl, hl, fun k hk => absurd hk (by omega)⟩
  · refine ⟨some ⟨g, 0, none⟩, cap, rfl, hl, fun k hk => ⟨g, rfl, ?_⟩⟩
    have hc := h.cells (g := g) rfl k (.int .i64 ((xs.getD k 0 : Nat) : Int)) (by
      unfold cellsI
      rw [List.getElem?_map, List.getD_eq_getElem?_getD, List.getElem?_eq_getElem (by omega)]; rfl)
    by_cases k0 : k = 0
    · subst k0; simpa [Addr.add] using hc
    · simpa [Addr.add, k0] using hc
theorem all_take_succ (xs : List Nat) (p : Nat → Bool) (k : Nat) (hk : k < xs.length) : (xs.take (k + 1)).all p = ((xs.take k).all p && p (xs.getD k 0)) := by
  rw [List.take_succ_eq_append_getElem hk, List.all_append, List.getD_eq_getElem?_getD, List.getElem?_eq_getElem hk]
  simp

set_option maxHeartbeats 1000000 in
theorem valid_ref (s : ByteArray) (w : World) (hs : s.size ≤ 1099511627776) : Calls Tryd.prog 53 #[.string s] w fun e w' => e = .returned (.bool (validX s.data.toList)) ∧ Below w.heap.size w w' := by
  have cP := points_ref s w hs
  obtain ⟨l, hl⟩ : ∃ l, s.data.toList = l := ⟨_, rfl⟩
  rw [hl] at cP ⊢
  have hsz : l.length = s.size := by rw [← hl]; simp
  have hrl := runes_le l
  clear hl
  unfold validX
  obtain ⟨xs, hxs⟩ : ∃ xs, runes l = xs := ⟨_, rfl⟩
  unfold ptsOut at cP
  rw [hxs] at cP hrl ⊢
  rw [hsz] at hrl
  clear hxs hsz
  obtain ⟨V, hV⟩ : ∃ V, validD l = V := ⟨_, rfl⟩
  rw [hV] at cP ⊢
  clear hV
  have H := Lib.hid cP
  clear cP
  go_enter Tryd.func53, Tryd.ntmps53
  go_wp2_with fail
  refine H.out.mono ?_
  rintro e w1 (⟨rfl, v, rfl, hown, hb⟩ | ⟨rfl, rfl, hb⟩)
  · obtain ⟨A, cap, rfl, hxl, hrd⟩ := own_read hown
    clear hown H
    have XL := Lib.hid hxl
    have RD := Lib.hid hrd
    clear hrd hxl
    obtain ⟨n, hn⟩ : ∃ n, xs.length = n := ⟨_, rfl⟩
    rw [hn] at RD XL hrl ⊢
    have HN := Lib.hid hn
    clear hn XL
    go_wp2
    go_loop [4, 5] (fun o i => ∃ k : Nat, k ≤ n ∧ i = .int .i64 k ∧ o = .bool ((xs.take k).all xmlN)) (fun _ i => n - (intOf i).toNat)
    case atStart => exact ⟨0, Nat.zero_le _, rfl, by simp⟩
    case round =>
      obtain ⟨k, hk, rfl, rfl⟩ := hrel
      by_cases hlt : k < n
      · obtain ⟨g, rfl, hc⟩ := RD.out k hlt
        have hts := Lib.hid (all_take_succ xs xmlN k (by rw [HN.out]; exact hlt))
        obtain ⟨x, hx⟩ : ∃ x, xs.getD k 0 = x := ⟨_, rfl⟩
        rw [hx] at hc hts
        have cX := xml_any (x : Int) w1
        rw [show xmlB (x : Int) = xmlN x from rfl] at cX
        cases hbv : (xs.take k).all xmlN
        · rw [hbv] at hts
          clear hbv hx cX
          go_wp2
          go_round
          case rel => exact ⟨k + 1, by omega, by go_num, by rw [hts.out]; rfl⟩
          case measure => simp [intOf]; omega
        · rw [hbv] at hts
          clear hbv hx
          have HX := Lib.hid cX
          clear cX
          go_wp2_with (go_at_call 69; refine HX.out.mono ?_; rintro e w' ⟨rfl, rfl⟩)
          go_round
          case rel => exact ⟨k + 1, by omega, by go_num, by rw [hts.out]; rfl⟩
          case measure => simp [intOf]; omega
      · obtain rfl : k = n := by omega
        go_wp2
        go_ret
        exact ⟨by rw [List.take_of_length_le (by rw [HN.out]; omega)]; rfl, hb⟩
  · clear H
    go_wp2
    go_loop [4, 5] (fun o i => i = .int .i64 0 ∧ o = .bool false) (fun _ _ => 0)
    case atStart => exact ⟨rfl, rfl⟩
    case round =>
      obtain ⟨rfl, rfl⟩ := hrel
      go_wp2
      go_ret
      exact ⟨rfl, hb⟩
end Go.Proofs.YtjpopmgnhgancaaDoor
namespace Go.Proofs.YtjpopmgnhgancaaDoor
open Go.RowKit Go.Lib
set_option maxRecDepth 100000
def okP (k x : Nat) : Prop := letterP (x : Int) ∨ (0 < k ∧ followP (x : Int))
instance (k x : Nat) : Decidable (okP k x) := by unfold okP; infer_instance
def nameP (xs : List Nat) : Prop := xs ≠ [] ∧ ∀ k, k < xs.length → okP k (xs.getD k 0)
def nameB (xs : List Nat) : Bool := !xs.isEmpty && (List.range xs.length).all fun k => decide (okP k (xs.getD k 0))
theorem nameB_true {xs : List Nat} (hne : xs ≠ []) (h : ∀ k, k < xs.length → okP k (xs.getD k 0)) : nameB xs = true := by
  unfold nameB
  simp [hne]
  intro k hk
  have := h k hk
  simpa [List.getD_eq_getElem?_getD] using this
theorem nameB_false {xs : List Nat} (k : Nat) (hk : k < xs.length) (h : ¬ okP k (xs.getD k 0)) : nameB xs = false := by
  unfold nameB
  rw [Bool.and_eq_false_iff]
  right
  rw [List.all_eq_false]
  exact ⟨k, List.mem_range.2 hk, by simpa using h⟩
def nameX (l : List UInt8) : Bool := validX l && nameB (runes l)

set_option maxHeartbeats 2000000 in
theorem name_ref (s : ByteArray) (w : World) (hs : s.size ≤ 1099511627776) : Calls Tryd.prog 26 #[.string s] w fun e w' => e = .returned (.bool (nameX s.data.toList)) ∧ Below w.heap.size w w' := by
  have cP := points_ref s w hs
  have cV := fun W => valid_ref s W hs
  obtain ⟨l, hl⟩ : ∃ l, s.data.toList = l := ⟨_, rfl⟩
  rw [hl] at cP cV ⊢
  have hsz : l.length = s.size := by rw [← hl]; simp
  have hrl := runes_le l
  clear hl
  unfold nameX
  unfold ptsOut at cP
  obtain ⟨X, hX⟩ : ∃ X, validX l = X := ⟨_, rfl⟩
  have hXv : X = true → validD l = true := by rw [← hX]; unfold validX; intro h; exact (Bool.and_eq_true_iff.1 h).1
  rw [hX] at cV ⊢
  obtain ⟨xs, hxs⟩ : ∃ xs, runes l = xs := ⟨_, rfl⟩
  rw [hxs] at cP hrl ⊢
  rw [hsz] at hrl
  clear hxs hsz hX
  have H := Lib.hid cP
  have HV := Lib.hid cV
  have HX := Lib.hid hXv
  clear cP cV hXv
  go_enter Tryd.func26, Tryd.ntmps26
  go_wp2_with fail
  refine H.out.mono ?_
  clear H
  rintro e w1 h1
  have h2 : ∃ (A : Option Addr) (n cap : Nat) (V : Bool), e = .returned (.tuple #[.slice A n cap, .bool V]) ∧ Below w.heap.size w w1 ∧ n ≤ s.size ∧
      (X = true → n = xs.length ∧ ∀ k, k < n → ∃ g, A = some ⟨g, 0, none⟩ ∧ g < w1.heap.size ∧ w1.cell? ⟨g, k, none⟩ = some (.int .i64 ((xs.getD k 0 : Nat) : Int))) := by
    rcases h1 with ⟨hv, v, rfl, hown, hb⟩ | ⟨hv, rfl, hb⟩
    · obtain ⟨A, cap, rfl, hxl, hrd⟩ := own_read hown
      refine ⟨A, _, cap, true, rfl, hb, hrl, fun _ => ⟨rfl, fun k hk => ?_⟩⟩
      obtain ⟨g, rfl, hc⟩ := hrd k hk
      exact ⟨g, rfl, (hown.lt g rfl).2, hc⟩
    · exact ⟨none, 0, 0, false, rfl, hb, by omega, fun h => by rw [HX.out h] at hv; cases hv⟩
  clear h1
  obtain ⟨A, n, cap, V, rfl, hb, hns, hrd⟩ := h2
  have RD := Lib.hid hrd
  clear hrd
  cases X
  · go_wp2_with fail
    refine (HV.out _).mono ?_
    rintro e w2 ⟨rfl, hb2⟩
    go_wp2
    go_ret
    exact ⟨rfl, hb.trans (hb2.mono hb.size)⟩
  · obtain ⟨hn, hrd⟩ := RD.out rfl
    clear RD
    have HN := Lib.hid hn
    clear hn
    have RD := Lib.hid hrd
    clear hrd
    go_wp2_with fail
    refine (HV.out _).mono ?_
    clear HV
    rintro e w2 ⟨rfl, hb2⟩
    by_cases hn0 : n = 0
    · subst hn0
      go_wp2
      go_ret
      refine ⟨ret_bool ?_, hb.trans (hb2.mono hb.size)⟩
      have : xs = [] := List.eq_nil_of_length_eq_zero HN.out.symm
      rw [this]; rfl
    · have hnz : ((n : Int) == 0) = false := by simp; omega
      go_wp2
      go_loop [5] (fun i => ∃ k : Nat, k ≤ n ∧ i = .int .i64 k ∧ Hid (∀ j, j < k → okP j (xs.getD j 0))) (fun i => n - (intOf i).toNat)
      case atStart => exact ⟨0, Nat.zero_le _, rfl, Lib.hid fun j hj => absurd hj (by omega)⟩
      case round =>
        obtain ⟨k, hk, rfl, hok⟩ := hrel
        by_cases hlt : k < n
        · obtain ⟨g, rfl, hg, hc⟩ := RD.out k hlt
          have hc2 := (hb2.cell (p := ⟨g, k, none⟩) hg).trans hc
          have hts : Hid (okP k (xs.getD k 0) → ∀ j, j < k + 1 → okP j (xs.getD j 0)) := Lib.hid fun h j hj => by
            by_cases e : j = k
            · subst e; exact h
            · exact hok.out j (by omega)
          have hfs : Hid (¬ okP k (xs.getD k 0) → nameB xs = false) := Lib.hid fun h => nameB_false k (by rw [← HN.out]; exact hlt) h
          obtain ⟨x, hx⟩ : ∃ x, xs.getD k 0 = x := ⟨_, rfl⟩
          rw [hx] at hc2 hts hfs
          clear hx hc hok
          rcases Nat.eq_zero_or_pos k with rfl | hk0
          · go_wp2
            all_goals first
              | (go_round
                 case rel => exact ⟨1, by omega, rfl, Lib.hid (hts.out (by go_light; clear hts hfs; simp only [Bool.not_eq_false', beq_iff_eq, beq_eq_false_iff_ne, ne_eq, decide_eq_true_eq] at *; unfold okP letterP followP; omega))⟩
                 case measure => simp [intOf]; omega)
              | (go_ret
                 exact ⟨ret_bool (hfs.out (by go_light; clear hts hfs; simp only [Bool.not_eq_true', beq_eq_false_iff_ne, ne_eq, decide_eq_false_iff_not] at *; unfold okP letterP followP; omega)).symm, hb.trans (hb2.mono hb.size)⟩)
          · have hkz : ((k : Int) == 0) = false := by simp; omega
            go_wp2
            all_goals first
              | (go_round
                 case rel => exact ⟨k + 1, by omega, by go_num, Lib.hid (hts.out (by go_light; clear hts hfs; simp only [Bool.not_eq_false', beq_iff_eq, beq_eq_false_iff_ne, ne_eq, decide_eq_true_eq] at *; unfold okP letterP followP; omega))⟩
                 case measure => simp [intOf]; omega)
              | (go_ret
                 exact ⟨ret_bool (hfs.out (by go_light; clear hts hfs; simp only [Bool.not_eq_true', beq_eq_false_iff_ne, ne_eq, decide_eq_false_iff_not] at *; unfold okP letterP followP; omega)).symm, hb.trans (hb2.mono hb.size)⟩)
        · obtain rfl : k = n := by omega
          go_wp2
          go_ret
          refine ⟨ret_bool ?_, hb.trans (hb2.mono hb.size)⟩
          have hne : xs ≠ [] := by intro h; have := HN.out; rw [h] at this; simp at this; omega
          rw [nameB_true hne (fun j hj => hok.out j (by rw [HN.out]; exact hj))]
end Go.Proofs.YtjpopmgnhgancaaDoor
