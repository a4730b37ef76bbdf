/- Valid texts and names, in package char and in the reference. No condition beyond what the theorems state. -/
import Derived.Test.YtpdaldpaceolnaaGreatDoorChars
import Derived.Laws.AppendOwn
import Derived.OwnWalk
import Derived.Below
import Derived.Laws.OwnMore
import Derived.Deep.LoopGhost
import Derived.WalkSpells
import Derived.Laws.RangeAny
import Derived.Lib.RuneCount
import Derived.Lib.OthersKept
import Derived.Shelf.GgClosure.Gives
import Derived.Test.YtpdaldpaceolnaaGreatDoorShelf
namespace Go.Proofs.YtpdaldpaceolnaaGreatDoor
open Go.RowKit Go.Lib
set_option maxRecDepth 100000
theorem ret_pair {a b : Int} {q r : Nat × Nat} (e : q = r) (h1 : a = r.1) (h2 : b = r.2) : Ending.returned (.tuple #[.int .i64 a, .int .i64 b]) = .returned (.tuple #[.int .i64 q.1, .int .i64 q.2]) := by rw [h1, h2, e]


def nextR2 (c0 c1 : Int) (p i : Value) : Prop := (i = .int .i64 1 ∧ p = .int .i64 (c0 - 192)) ∨ (i = .int .i64 2 ∧ 128 ≤ c1 ∧ c1 ≤ 191 ∧ p = .int .i64 (64 * (c0 - 192) + c1 - 128))
def nextR3 (c0 c1 c2 : Int) (p i : Value) : Prop := (i = .int .i64 1 ∧ p = .int .i64 (c0 - 224)) ∨ (i = .int .i64 2 ∧ 128 ≤ c1 ∧ c1 ≤ 191 ∧ p = .int .i64 (64 * (c0 - 224) + c1 - 128)) ∨
  (i = .int .i64 3 ∧ 128 ≤ c1 ∧ c1 ≤ 191 ∧ 128 ≤ c2 ∧ c2 ≤ 191 ∧ p = .int .i64 (64 * (64 * (c0 - 224) + c1 - 128) + c2 - 128))
def nextR4 (c0 c1 c2 c3 : Int) (p i : Value) : Prop := (i = .int .i64 1 ∧ p = .int .i64 (c0 - 240)) ∨ (i = .int .i64 2 ∧ 128 ≤ c1 ∧ c1 ≤ 191 ∧ p = .int .i64 (64 * (c0 - 240) + c1 - 128)) ∨
  (i = .int .i64 3 ∧ 128 ≤ c1 ∧ c1 ≤ 191 ∧ 128 ≤ c2 ∧ c2 ≤ 191 ∧ p = .int .i64 (64 * (64 * (c0 - 240) + c1 - 128) + c2 - 128)) ∨
  (i = .int .i64 4 ∧ 128 ≤ c1 ∧ c1 ≤ 191 ∧ 128 ≤ c2 ∧ c2 ≤ 191 ∧ 128 ≤ c3 ∧ c3 ≤ 191 ∧ p = .int .i64 (64 * (64 * (64 * (c0 - 240) + c1 - 128) + c2 - 128) + c3 - 128))
section
variable (s : ByteArray) (w : World)
def nextPost (s : ByteArray) (w : World) (e : Ending) (w' : World) : Prop := e = .returned (.tuple #[.int .i64 (nextS s).1, .int .i64 (nextS s).2]) ∧ w = w'

set_option maxHeartbeats 1000000 in
theorem next_asc (h0 : 0 < s.size) (hs : s.size ≤ maxLen) (hc1 : (s[0]).toNat < 128) : Calls Tryz.prog 43 #[.string s] w (nextPost s w) := by
  have hs2 := hs; unfold maxLen at hs2
  have E : Hid (nextS s = (s[0].toNat, 1)) := Lib.hid (by unfold nextS; rw [← bN_get s 0 h0]; exact nextOf_asc hc1)
  go_enter Tryz.func43, Tryz.ntmps43
  go_wp2
  go_ret2
  exact ⟨ret_pair E.out rfl rfl, rfl⟩
set_option maxHeartbeats 1000000 in
theorem next_lead (h0 : 0 < s.size) (hs : s.size ≤ maxLen) (hc : (128 ≤ (s[0]).toNat ∧ s[0].toNat < 192) ∨ 248 ≤ s[0].toNat) : Calls Tryz.prog 43 #[.string s] w (nextPost s w) := by
  have hs2 := hs; unfold maxLen at hs2
  have u0 : s[0].toNat < 256 := UInt8.toNat_lt _
  have E : Hid (nextS s = (0, 0)) := Lib.hid (by unfold nextS; rw [← bN_get s 0 h0]; exact nextOf_lead hc u0)
  rcases hc with ⟨hc1, hc2⟩ | hc1
  all_goals
    go_enter Tryz.func43, Tryz.ntmps43
    go_wp2
    go_ret2
    exact ⟨ret_pair E.out rfl rfl, rfl⟩
set_option maxHeartbeats 1000000 in
theorem next_short (h0 : 0 < s.size) (hs : s.size ≤ maxLen) (hc : (192 ≤ s[0].toNat ∧ s[0].toNat < 224 ∧ s.size < 2) ∨ (224 ≤ s[0].toNat ∧ s[0].toNat < 240 ∧ s.size < 3) ∨ (240 ≤ s[0].toNat ∧ s[0].toNat < 248 ∧ s.size < 4)) : Calls Tryz.prog 43 #[.string s] w (nextPost s w) := by
  unfold maxLen at hs
  have u0 : s[0].toNat < 256 := UInt8.toNat_lt _
  have E : Hid (nextS s = (0, 0)) := Lib.hid (by unfold nextS; rw [← bN_get s 0 h0]; exact nextOf_short hc)
  rcases hc with ⟨hc1, hc2, hc3⟩ | ⟨hc1, hc2, hc3⟩ | ⟨hc1, hc2, hc3⟩
  all_goals
    go_enter Tryz.func43, Tryz.ntmps43
    go_wp2
    go_ret2
    exact ⟨ret_pair E.out rfl rfl, rfl⟩
set_option maxHeartbeats 2000000 in
theorem next2 (hn : 2 ≤ s.size) (hs : s.size ≤ maxLen) (hc1 : 192 ≤ (s[0]'(by omega)).toNat) (hc2 : (s[0]'(by omega)).toNat < 224) : Calls Tryz.prog 43 #[.string s] w (nextPost s w) := by
  unfold maxLen at hs
  have h0 : 0 < s.size := by omega
  have h1 : 1 < s.size := by omega
  have u0 : s[0].toNat < 256 := UInt8.toNat_lt _
  have u1 : s[1].toNat < 256 := UInt8.toNat_lt _
  have E : Hid (nextS s = if contN s[1].toNat then finN 128 (64 * (s[0].toNat - 192) + (s[1].toNat - 128)) 2 else (0, 0)) :=
    Lib.hid (by unfold nextS; rw [← bN_get s 0 h0, ← bN_get s 1 h1]; exact nextOf_2 ⟨hc1, hc2⟩ hn u1)
  have a0 : decide ((s[0].toNat : Int) < 128) = false := decide_eq_false (by omega)
  have a224 : decide ((s[0].toNat : Int) < 224) = true := decide_eq_true (by omega)
  have az : decide ((s.size : Int) < 2) = false := decide_eq_false (by omega)
  go_enter Tryz.func43, Tryz.ntmps43
  go_wp2
  go_loop [6, 8] (fun p i => nextR2 (s[0].toNat : Int) (s[1].toNat : Int) p i) (fun _ i => 2 - (intOf i).toNat)
  case atStart => exact Or.inl ⟨rfl, rfl⟩
  case round =>
    unfold nextR2 at hrel
    rcases hrel with ⟨rfl, rfl⟩ | ⟨rfl, d1, e1, rfl⟩
    · by_cases k : contN s[1].toNat
      · obtain ⟨k1, k2⟩ := k
        go_wp2
        go_round
        case rel => unfold nextR2; exact Or.inr ⟨rfl, by omega, by omega, rfl⟩
        case measure => simp [intOf]
      · have K : Hid (¬ (contN s[1].toNat)) := Lib.hid (by intro h; exact k h)
        rcases (by unfold contN at k; omega : s[1].toNat < 128 ∨ 191 < s[1].toNat) with k1 | k1
        all_goals
          clear k
          go_wp2
          go_ret2
          exact ⟨ret_pair (E.out.trans (if_neg K.out)) rfl rfl, rfl⟩
    · have K : Hid (contN s[1].toNat) := Lib.hid (by unfold contN; omega)
      rcases (by omega : (64 * (s[0].toNat - 192) + (s[1].toNat - 128)) < 128 ∨ (55296 ≤ (64 * (s[0].toNat - 192) + (s[1].toNat - 128)) ∧ (64 * (s[0].toNat - 192) + (s[1].toNat - 128)) ≤ 57343) ∨ 1114111 < (64 * (s[0].toNat - 192) + (s[1].toNat - 128)) ∨ (¬ (64 * (s[0].toNat - 192) + (s[1].toNat - 128)) < 128 ∧ (64 * (s[0].toNat - 192) + (s[1].toNat - 128)) < 55296) ∨ (¬ (64 * (s[0].toNat - 192) + (s[1].toNat - 128)) < 128 ∧ 57343 < (64 * (s[0].toNat - 192) + (s[1].toNat - 128)) ∧ (64 * (s[0].toNat - 192) + (s[1].toNat - 128)) ≤ 1114111)) with k | k | k | k | k
      · have F : Hid (nextS s = (0, 0)) := Lib.hid ((E.out.trans (if_pos K.out)).trans (finN_bad (by omega)))
        have k' : (64 * ((s[0].toNat : Int) - 192) + (s[1].toNat : Int) - 128) < 128 := by omega
        clear k
        go_wp2
        all_goals (go_ret2; exact ⟨ret_pair F.out rfl rfl, rfl⟩)
      · have F : Hid (nextS s = (0, 0)) := Lib.hid ((E.out.trans (if_pos K.out)).trans (finN_bad (by omega)))
        have k' : 55296 ≤ (64 * ((s[0].toNat : Int) - 192) + (s[1].toNat : Int) - 128) := by omega
        have k2 : (64 * ((s[0].toNat : Int) - 192) + (s[1].toNat : Int) - 128) ≤ 57343 := by omega
        clear k
        go_wp2
        all_goals (go_ret2; exact ⟨ret_pair F.out rfl rfl, rfl⟩)
      · have F : Hid (nextS s = (0, 0)) := Lib.hid ((E.out.trans (if_pos K.out)).trans (finN_bad (by omega)))
        have k' : 1114111 < (64 * ((s[0].toNat : Int) - 192) + (s[1].toNat : Int) - 128) := by omega
        clear k
        go_wp2
        all_goals (go_ret2; exact ⟨ret_pair F.out rfl rfl, rfl⟩)
      · have F : Hid (nextS s = ((64 * (s[0].toNat - 192) + (s[1].toNat - 128)), 2)) := Lib.hid ((E.out.trans (if_pos K.out)).trans (finN_ok (by omega)))
        have k' : ¬ (64 * ((s[0].toNat : Int) - 192) + (s[1].toNat : Int) - 128) < 128 := by omega
        have k2 : (64 * ((s[0].toNat : Int) - 192) + (s[1].toNat : Int) - 128) < 55296 := by omega
        clear k
        go_wp2
        all_goals (go_ret2; refine ⟨ret_pair F.out ?_ rfl, rfl⟩; go_light; simp only; omega)
      · have F : Hid (nextS s = ((64 * (s[0].toNat - 192) + (s[1].toNat - 128)), 2)) := Lib.hid ((E.out.trans (if_pos K.out)).trans (finN_ok (by omega)))
        have k' : ¬ (64 * ((s[0].toNat : Int) - 192) + (s[1].toNat : Int) - 128) < 128 := by omega
        have k2 : 57343 < (64 * ((s[0].toNat : Int) - 192) + (s[1].toNat : Int) - 128) := by omega
        have k3 : (64 * ((s[0].toNat : Int) - 192) + (s[1].toNat : Int) - 128) ≤ 1114111 := by omega
        clear k
        go_wp2
        all_goals (go_ret2; refine ⟨ret_pair F.out ?_ rfl, rfl⟩; go_light; simp only; omega)

end
end Go.Proofs.YtpdaldpaceolnaaGreatDoor
namespace Go.Proofs.YtpdaldpaceolnaaGreatDoor
open Go.RowKit Go.Lib
set_option maxRecDepth 100000
section
variable (s : ByteArray) (w : World)
set_option maxHeartbeats 2000000 in
theorem next3 (hn : 3 ≤ s.size) (hs : s.size ≤ maxLen) (hc1 : 224 ≤ (s[0]'(by omega)).toNat) (hc2 : (s[0]'(by omega)).toNat < 240) : Calls Tryz.prog 43 #[.string s] w (nextPost s w) := by
  unfold maxLen at hs
  have h0 : 0 < s.size := by omega
  have h1 : 1 < s.size := by omega
  have h2 : 2 < s.size := by omega
  have u0 : s[0].toNat < 256 := UInt8.toNat_lt _
  have u1 : s[1].toNat < 256 := UInt8.toNat_lt _
  have u2 : s[2].toNat < 256 := UInt8.toNat_lt _
  have E : Hid (nextS s = if contN s[1].toNat ∧ contN s[2].toNat then finN 2048 (64 * (64 * (s[0].toNat - 224) + (s[1].toNat - 128)) + (s[2].toNat - 128)) 3 else (0, 0)) :=
    Lib.hid (by unfold nextS; rw [← bN_get s 0 h0, ← bN_get s 1 h1, ← bN_get s 2 h2]; exact nextOf_3 ⟨hc1, hc2⟩ hn u1 u2)
  have a0 : decide ((s[0].toNat : Int) < 128) = false := decide_eq_false (by omega)
  have a224 : decide ((s[0].toNat : Int) < 224) = false := decide_eq_false (by omega)
  have a240 : decide ((s[0].toNat : Int) < 240) = true := decide_eq_true (by omega)
  have az : decide ((s.size : Int) < 3) = false := decide_eq_false (by omega)
  go_enter Tryz.func43, Tryz.ntmps43
  go_wp2
  go_loop [6, 8] (fun p i => nextR3 (s[0].toNat : Int) (s[1].toNat : Int) (s[2].toNat : Int) p i) (fun _ i => 3 - (intOf i).toNat)
  case atStart => exact Or.inl ⟨rfl, rfl⟩
  case round =>
    unfold nextR3 at hrel
    rcases hrel with ⟨rfl, rfl⟩ | ⟨rfl, d1, e1, rfl⟩ | ⟨rfl, d1, e1, d2, e2, rfl⟩
    · by_cases k : contN s[1].toNat
      · obtain ⟨k1, k2⟩ := k
        go_wp2
        go_round
        case rel => unfold nextR3; exact Or.inr (Or.inl ⟨rfl, by omega, by omega, rfl⟩)
        case measure => simp [intOf]
      · have K : Hid (¬ (contN s[1].toNat ∧ contN s[2].toNat)) := Lib.hid (by intro h; exact k h.1)
        rcases (by unfold contN at k; omega : s[1].toNat < 128 ∨ 191 < s[1].toNat) with k1 | k1
        all_goals
          clear k
          go_wp2
          go_ret2
          exact ⟨ret_pair (E.out.trans (if_neg K.out)) rfl rfl, rfl⟩
    · by_cases k : contN s[2].toNat
      · obtain ⟨k1, k2⟩ := k
        go_wp2
        go_round
        case rel => unfold nextR3; exact Or.inr (Or.inr ⟨rfl, by omega, by omega, by omega, by omega, rfl⟩)
        case measure => simp [intOf]
      · have K : Hid (¬ (contN s[1].toNat ∧ contN s[2].toNat)) := Lib.hid (by intro h; exact k h.2)
        rcases (by unfold contN at k; omega : s[2].toNat < 128 ∨ 191 < s[2].toNat) with k1 | k1
        all_goals
          clear k
          go_wp2
          go_ret2
          exact ⟨ret_pair (E.out.trans (if_neg K.out)) rfl rfl, rfl⟩
    · have K : Hid (contN s[1].toNat ∧ contN s[2].toNat) := Lib.hid (by unfold contN; omega)
      rcases (by omega : (64 * (64 * (s[0].toNat - 224) + (s[1].toNat - 128)) + (s[2].toNat - 128)) < 2048 ∨ (55296 ≤ (64 * (64 * (s[0].toNat - 224) + (s[1].toNat - 128)) + (s[2].toNat - 128)) ∧ (64 * (64 * (s[0].toNat - 224) + (s[1].toNat - 128)) + (s[2].toNat - 128)) ≤ 57343) ∨ 1114111 < (64 * (64 * (s[0].toNat - 224) + (s[1].toNat - 128)) + (s[2].toNat - 128)) ∨ (¬ (64 * (64 * (s[0].toNat - 224) + (s[1].toNat - 128)) + (s[2].toNat - 128)) < 2048 ∧ (64 * (64 * (s[0].toNat - 224) + (s[1].toNat - 128)) + (s[2].toNat - 128)) < 55296) ∨ (¬ (64 * (64 * (s[0].toNat - 224) + (s[1].toNat - 128)) + (s[2].toNat - 128)) < 2048 ∧ 57343 < (64 * (64 * (s[0].toNat - 224) + (s[1].toNat - 128)) + (s[2].toNat - 128)) ∧ (64 * (64 * (s[0].toNat - 224) + (s[1].toNat - 128)) + (s[2].toNat - 128)) ≤ 1114111)) with k | k | k | k | k
      · have F : Hid (nextS s = (0, 0)) := Lib.hid ((E.out.trans (if_pos K.out)).trans (finN_bad (by omega)))
        have k' : (64 * (64 * ((s[0].toNat : Int) - 224) + (s[1].toNat : Int) - 128) + (s[2].toNat : Int) - 128) < 2048 := by omega
        clear k
        go_wp2
        all_goals (go_ret2; exact ⟨ret_pair F.out rfl rfl, rfl⟩)
      · have F : Hid (nextS s = (0, 0)) := Lib.hid ((E.out.trans (if_pos K.out)).trans (finN_bad (by omega)))
        have k' : 55296 ≤ (64 * (64 * ((s[0].toNat : Int) - 224) + (s[1].toNat : Int) - 128) + (s[2].toNat : Int) - 128) := by omega
        have k2 : (64 * (64 * ((s[0].toNat : Int) - 224) + (s[1].toNat : Int) - 128) + (s[2].toNat : Int) - 128) ≤ 57343 := by omega
        clear k
        go_wp2
        all_goals (go_ret2; exact ⟨ret_pair F.out rfl rfl, rfl⟩)
      · have F : Hid (nextS s = (0, 0)) := Lib.hid ((E.out.trans (if_pos K.out)).trans (finN_bad (by omega)))
        have k' : 1114111 < (64 * (64 * ((s[0].toNat : Int) - 224) + (s[1].toNat : Int) - 128) + (s[2].toNat : Int) - 128) := by omega
        clear k
        go_wp2
        all_goals (go_ret2; exact ⟨ret_pair F.out rfl rfl, rfl⟩)
      · have F : Hid (nextS s = ((64 * (64 * (s[0].toNat - 224) + (s[1].toNat - 128)) + (s[2].toNat - 128)), 3)) := Lib.hid ((E.out.trans (if_pos K.out)).trans (finN_ok (by omega)))
        have k' : ¬ (64 * (64 * ((s[0].toNat : Int) - 224) + (s[1].toNat : Int) - 128) + (s[2].toNat : Int) - 128) < 2048 := by omega
        have k2 : (64 * (64 * ((s[0].toNat : Int) - 224) + (s[1].toNat : Int) - 128) + (s[2].toNat : Int) - 128) < 55296 := by omega
        clear k
        go_wp2
        all_goals (go_ret2; refine ⟨ret_pair F.out ?_ rfl, rfl⟩; go_light; simp only; omega)
      · have F : Hid (nextS s = ((64 * (64 * (s[0].toNat - 224) + (s[1].toNat - 128)) + (s[2].toNat - 128)), 3)) := Lib.hid ((E.out.trans (if_pos K.out)).trans (finN_ok (by omega)))
        have k' : ¬ (64 * (64 * ((s[0].toNat : Int) - 224) + (s[1].toNat : Int) - 128) + (s[2].toNat : Int) - 128) < 2048 := by omega
        have k2 : 57343 < (64 * (64 * ((s[0].toNat : Int) - 224) + (s[1].toNat : Int) - 128) + (s[2].toNat : Int) - 128) := by omega
        have k3 : (64 * (64 * ((s[0].toNat : Int) - 224) + (s[1].toNat : Int) - 128) + (s[2].toNat : Int) - 128) ≤ 1114111 := by omega
        clear k
        go_wp2
        all_goals (go_ret2; refine ⟨ret_pair F.out ?_ rfl, rfl⟩; go_light; simp only; omega)

end
end Go.Proofs.YtpdaldpaceolnaaGreatDoor
namespace Go.Proofs.YtpdaldpaceolnaaGreatDoor
open Go.RowKit Go.Lib
set_option maxRecDepth 100000
section
variable (s : ByteArray) (w : World)
set_option maxHeartbeats 2000000 in
theorem next4 (hn : 4 ≤ s.size) (hs : s.size ≤ maxLen) (hc1 : 240 ≤ (s[0]'(by omega)).toNat) (hc2 : (s[0]'(by omega)).toNat < 248) : Calls Tryz.prog 43 #[.string s] w (nextPost s w) := by
  unfold maxLen at hs
  have h0 : 0 < s.size := by omega
  have h1 : 1 < s.size := by omega
  have h2 : 2 < s.size := by omega
  have h3 : 3 < s.size := by omega
  have u0 : s[0].toNat < 256 := UInt8.toNat_lt _
  have u1 : s[1].toNat < 256 := UInt8.toNat_lt _
  have u2 : s[2].toNat < 256 := UInt8.toNat_lt _
  have u3 : s[3].toNat < 256 := UInt8.toNat_lt _
  have E : Hid (nextS s = if contN s[1].toNat ∧ contN s[2].toNat ∧ contN s[3].toNat then finN 65536 (64 * (64 * (64 * (s[0].toNat - 240) + (s[1].toNat - 128)) + (s[2].toNat - 128)) + (s[3].toNat - 128)) 4 else (0, 0)) :=
    Lib.hid (by unfold nextS; rw [← bN_get s 0 h0, ← bN_get s 1 h1, ← bN_get s 2 h2, ← bN_get s 3 h3]; exact nextOf_4 ⟨hc1, hc2⟩ hn u1 u2 u3)
  have a0 : decide ((s[0].toNat : Int) < 128) = false := decide_eq_false (by omega)
  have a224 : decide ((s[0].toNat : Int) < 224) = false := decide_eq_false (by omega)
  have a240 : decide ((s[0].toNat : Int) < 240) = false := decide_eq_false (by omega)
  have a248 : decide ((s[0].toNat : Int) < 248) = true := decide_eq_true (by omega)
  have az : decide ((s.size : Int) < 4) = false := decide_eq_false (by omega)
  go_enter Tryz.func43, Tryz.ntmps43
  go_wp2
  go_loop [6, 8] (fun p i => nextR4 (s[0].toNat : Int) (s[1].toNat : Int) (s[2].toNat : Int) (s[3].toNat : Int) p i) (fun _ i => 4 - (intOf i).toNat)
  case atStart => exact Or.inl ⟨rfl, rfl⟩
  case round =>
    unfold nextR4 at hrel
    rcases hrel with ⟨rfl, rfl⟩ | ⟨rfl, d1, e1, rfl⟩ | ⟨rfl, d1, e1, d2, e2, rfl⟩ | ⟨rfl, d1, e1, d2, e2, d3, e3, rfl⟩
    · by_cases k : contN s[1].toNat
      · obtain ⟨k1, k2⟩ := k
        go_wp2
        go_round
        case rel => unfold nextR4; exact Or.inr (Or.inl ⟨rfl, by omega, by omega, rfl⟩)
        case measure => simp [intOf]
      · have K : Hid (¬ (contN s[1].toNat ∧ contN s[2].toNat ∧ contN s[3].toNat)) := Lib.hid (by intro h; exact k h.1)
        rcases (by unfold contN at k; omega : s[1].toNat < 128 ∨ 191 < s[1].toNat) with k1 | k1
        all_goals
          clear k
          go_wp2
          go_ret2
          exact ⟨ret_pair (E.out.trans (if_neg K.out)) rfl rfl, rfl⟩
    · by_cases k : contN s[2].toNat
      · obtain ⟨k1, k2⟩ := k
        go_wp2
        go_round
        case rel => unfold nextR4; exact Or.inr (Or.inr (Or.inl ⟨rfl, by omega, by omega, by omega, by omega, rfl⟩))
        case measure => simp [intOf]
      · have K : Hid (¬ (contN s[1].toNat ∧ contN s[2].toNat ∧ contN s[3].toNat)) := Lib.hid (by intro h; exact k h.2.1)
        rcases (by unfold contN at k; omega : s[2].toNat < 128 ∨ 191 < s[2].toNat) with k1 | k1
        all_goals
          clear k
          go_wp2
          go_ret2
          exact ⟨ret_pair (E.out.trans (if_neg K.out)) rfl rfl, rfl⟩
    · by_cases k : contN s[3].toNat
      · obtain ⟨k1, k2⟩ := k
        go_wp2
        go_round
        case rel => unfold nextR4; exact Or.inr (Or.inr (Or.inr ⟨rfl, by omega, by omega, by omega, by omega, by omega, by omega, rfl⟩))
        case measure => simp [intOf]
      · have K : Hid (¬ (contN s[1].toNat ∧ contN s[2].toNat ∧ contN s[3].toNat)) := Lib.hid (by intro h; exact k h.2.2)
        rcases (by unfold contN at k; omega : s[3].toNat < 128 ∨ 191 < s[3].toNat) with k1 | k1
        all_goals
          clear k
          go_wp2
          go_ret2
          exact ⟨ret_pair (E.out.trans (if_neg K.out)) rfl rfl, rfl⟩
    · have K : Hid (contN s[1].toNat ∧ contN s[2].toNat ∧ contN s[3].toNat) := Lib.hid (by unfold contN; omega)
      rcases (by omega : (64 * (64 * (64 * (s[0].toNat - 240) + (s[1].toNat - 128)) + (s[2].toNat - 128)) + (s[3].toNat - 128)) < 65536 ∨ (55296 ≤ (64 * (64 * (64 * (s[0].toNat - 240) + (s[1].toNat - 128)) + (s[2].toNat - 128)) + (s[3].toNat - 128)) ∧ (64 * (64 * (64 * (s[0].toNat - 240) + (s[1].toNat - 128)) + (s[2].toNat - 128)) + (s[3].toNat - 128)) ≤ 57343) ∨ 1114111 < (64 * (64 * (64 * (s[0].toNat - 240) + (s[1].toNat - 128)) + (s[2].toNat - 128)) + (s[3].toNat - 128)) ∨ (¬ (64 * (64 * (64 * (s[0].toNat - 240) + (s[1].toNat - 128)) + (s[2].toNat - 128)) + (s[3].toNat - 128)) < 65536 ∧ (64 * (64 * (64 * (s[0].toNat - 240) + (s[1].toNat - 128)) + (s[2].toNat - 128)) + (s[3].toNat - 128)) < 55296) ∨ (¬ (64 * (64 * (64 * (s[0].toNat - 240) + (s[1].toNat - 128)) + (s[2].toNat - 128)) + (s[3].toNat - 128)) < 65536 ∧ 57343 < (64 * (64 * (64 * (s[0].toNat - 240) + (s[1].toNat - 128)) + (s[2].toNat - 128)) + (s[3].toNat - 128)) ∧ (64 * (64 * (64 * (s[0].toNat - 240) + (s[1].toNat - 128)) + (s[2].toNat - 128)) + (s[3].toNat - 128)) ≤ 1114111)) with k | k | k | k | k
      · have F : Hid (nextS s = (0, 0)) := Lib.hid ((E.out.trans (if_pos K.out)).trans (finN_bad (by omega)))
        have k' : (64 * (64 * (64 * ((s[0].toNat : Int) - 240) + (s[1].toNat : Int) - 128) + (s[2].toNat : Int) - 128) + (s[3].toNat : Int) - 128) < 65536 := by omega
        clear k
        go_wp2
        all_goals (go_ret2; exact ⟨ret_pair F.out rfl rfl, rfl⟩)
      · have F : Hid (nextS s = (0, 0)) := Lib.hid ((E.out.trans (if_pos K.out)).trans (finN_bad (by omega)))
        have k' : 55296 ≤ (64 * (64 * (64 * ((s[0].toNat : Int) - 240) + (s[1].toNat : Int) - 128) + (s[2].toNat : Int) - 128) + (s[3].toNat : Int) - 128) := by omega
        have k2 : (64 * (64 * (64 * ((s[0].toNat : Int) - 240) + (s[1].toNat : Int) - 128) + (s[2].toNat : Int) - 128) + (s[3].toNat : Int) - 128) ≤ 57343 := by omega
        clear k
        go_wp2
        all_goals (go_ret2; exact ⟨ret_pair F.out rfl rfl, rfl⟩)
      · have F : Hid (nextS s = (0, 0)) := Lib.hid ((E.out.trans (if_pos K.out)).trans (finN_bad (by omega)))
        have k' : 1114111 < (64 * (64 * (64 * ((s[0].toNat : Int) - 240) + (s[1].toNat : Int) - 128) + (s[2].toNat : Int) - 128) + (s[3].toNat : Int) - 128) := by omega
        clear k
        go_wp2
        all_goals (go_ret2; exact ⟨ret_pair F.out rfl rfl, rfl⟩)
      · have F : Hid (nextS s = ((64 * (64 * (64 * (s[0].toNat - 240) + (s[1].toNat - 128)) + (s[2].toNat - 128)) + (s[3].toNat - 128)), 4)) := Lib.hid ((E.out.trans (if_pos K.out)).trans (finN_ok (by omega)))
        have k' : ¬ (64 * (64 * (64 * ((s[0].toNat : Int) - 240) + (s[1].toNat : Int) - 128) + (s[2].toNat : Int) - 128) + (s[3].toNat : Int) - 128) < 65536 := by omega
        have k2 : (64 * (64 * (64 * ((s[0].toNat : Int) - 240) + (s[1].toNat : Int) - 128) + (s[2].toNat : Int) - 128) + (s[3].toNat : Int) - 128) < 55296 := by omega
        clear k
        go_wp2
        all_goals (go_ret2; refine ⟨ret_pair F.out ?_ rfl, rfl⟩; go_light; simp only; omega)
      · have F : Hid (nextS s = ((64 * (64 * (64 * (s[0].toNat - 240) + (s[1].toNat - 128)) + (s[2].toNat - 128)) + (s[3].toNat - 128)), 4)) := Lib.hid ((E.out.trans (if_pos K.out)).trans (finN_ok (by omega)))
        have k' : ¬ (64 * (64 * (64 * ((s[0].toNat : Int) - 240) + (s[1].toNat : Int) - 128) + (s[2].toNat : Int) - 128) + (s[3].toNat : Int) - 128) < 65536 := by omega
        have k2 : 57343 < (64 * (64 * (64 * ((s[0].toNat : Int) - 240) + (s[1].toNat : Int) - 128) + (s[2].toNat : Int) - 128) + (s[3].toNat : Int) - 128) := by omega
        have k3 : (64 * (64 * (64 * ((s[0].toNat : Int) - 240) + (s[1].toNat : Int) - 128) + (s[2].toNat : Int) - 128) + (s[3].toNat : Int) - 128) ≤ 1114111 := by omega
        clear k
        go_wp2
        all_goals (go_ret2; refine ⟨ret_pair F.out ?_ rfl, rfl⟩; go_light; simp only; omega)

end
end Go.Proofs.YtpdaldpaceolnaaGreatDoor
namespace Go.Proofs.YtpdaldpaceolnaaGreatDoor
open Go.RowKit Go.Lib
set_option maxRecDepth 100000
theorem next_any (s : ByteArray) (w : World) (h0 : 0 < s.size) (hs : s.size ≤ maxLen) : Calls Tryz.prog 43 #[.string s] w (nextPost s w) := by
  have u0 : s[0].toNat < 256 := UInt8.toNat_lt _
  by_cases c1 : s[0].toNat < 128
  · exact next_asc s w h0 hs c1
  by_cases c2 : s[0].toNat < 192
  · exact next_lead s w h0 hs (.inl ⟨by omega, c2⟩)
  by_cases c3 : 248 ≤ s[0].toNat
  · exact next_lead s w h0 hs (.inr c3)
  by_cases c4 : s[0].toNat < 224
  · by_cases d : 2 ≤ s.size
    · exact next2 s w d hs (by omega) c4
    · exact next_short s w h0 hs (.inl ⟨by omega, c4, by omega⟩)
  by_cases c5 : s[0].toNat < 240
  · by_cases d : 3 ≤ s.size
    · exact next3 s w d hs (by omega) c5
    · exact next_short s w h0 hs (.inr (.inl ⟨by omega, c5, by omega⟩))
  by_cases d : 4 ≤ s.size
  · exact next4 s w d hs (by omega) (by omega)
  · exact next_short s w h0 hs (.inr (.inr ⟨by omega, by omega, by omega⟩))

def nextL (l : List UInt8) : Nat × Nat := if (decodeL l).1 = 65533 ∧ (decodeL l).2 = 1 then (0, 0) else decodeL l
theorem nextS_eq (s : ByteArray) : nextS s = nextL s.data.toList := by
  unfold nextS nextL nextOf
  rw [decodeL_N]
  unfold bN
  rw [show s.data.toList.length = s.size from by simp]
theorem extract_list (s : ByteArray) (p q : Nat) : (s.extract p q).data.toList = (s.data.toList.take q).drop p := by
  rw [ByteArray.data_extract, Array.toList_extract, List.extract_eq_take_drop, List.drop_take]
theorem extract_drop (s : ByteArray) (p : Nat) : (s.extract p s.size).data.toList = s.data.toList.drop p := by
  rw [extract_list, List.take_of_length_le (by simp)]
theorem next_drop (s : ByteArray) (p : Nat) : nextS (s.extract p s.size) = nextL (s.data.toList.drop p) := by rw [nextS_eq, extract_drop]
end Go.Proofs.YtpdaldpaceolnaaGreatDoor
namespace Go.Proofs.YtpdaldpaceolnaaGreatDoor
open Go.RowKit Go.Lib
set_option maxRecDepth 100000
theorem int_info : (Tryz.prog.info? 3).map (fun i => (i.zero, i.size, i.bytes)) = some (some (.int .i64 0), 1, 8) := by kernel_rfl
def cellsI (l : List Nat) : List Value := l.map fun (r : Nat) => Value.int .i64 (r : Int)
theorem cell_one_new (w : World) (x : Value) (t : TypeId) : ∀ j u, [x][j]? = some u → (w.alloc (.cells #[x] t)).cell? ((⟨w.heap.size, 0, none⟩ : Addr).add j) = some u := by
  intro j u hj
  match j, hj with
  | 0, hj => simp at hj; subst hj; simp [Addr.add]
  | (j + 1), hj => simp at hj
theorem cellsI_snoc (l : List Nat) (r : Nat) : cellsI (l ++ [r]) = cellsI l ++ [.int .i64 (r : Int)] := by simp [cellsI]
def ptsOut (B : Nat) (w : World) (l : List UInt8) (e : Ending) (w' : World) : Prop :=
  (validD l = true ∧ ∃ v, e = .returned (.tuple #[v, .bool true]) ∧ w'.ownsRow B 3 1 v (runes l).length (cellsI (runes l)) ∧ Below B w w') ∨
  (validD l = false ∧ e = .returned (.tuple #[.slice none 0 0, .bool false]) ∧ Below B w w')
set_option maxHeartbeats 1000000 in
theorem points_ref (s : ByteArray) (w : World) (hs : s.size ≤ 1099511627776) : Calls Tryz.prog 23 #[.string s] w (ptsOut w.heap.size w s.data.toList) := by
  obtain ⟨i0, hi, hz0, hz1, hz2⟩ := info_parts int_info
  obtain ⟨l, hl⟩ : ∃ l, s.data.toList = l := ⟨_, rfl⟩
  have hsz : s.size = l.length := by rw [← hl]; simp
  rw [hl]
  have HL := Lib.hid hl
  have HZ := Lib.hid hsz
  clear hl hsz
  go_enter Tryz.func23, Tryz.ntmps23
  go_wp2
  go_loopg [4, 5] s.size (fun gf s4 s5 wx => ∃ (pos : Nat) (pre : List Nat), s5 = .int .i64 pos ∧ pos ≤ s.size ∧ s.size ≤ pos + gf ∧ Hid (validD l = validD (l.drop pos)) ∧ Hid (runes l = pre ++ runes (l.drop pos)) ∧ pre.length ≤ pos ∧
      wx.ownsRow w.heap.size 3 1 s4 pre.length (cellsI pre) ∧ Below w.heap.size w wx)
  case atStart => exact ⟨0, [], rfl, by omega, by omega, Lib.hid rfl, Lib.hid rfl, by simp, ⟨rfl, .inl ⟨rfl, rfl⟩⟩, Below.refl _ _⟩
  case round =>
    obtain ⟨pos, pre, rfl, hp, hf, hv, hr, hle, hown, hb⟩ := hrel
    by_cases hlt : pos < s.size
    · have hne : l.drop pos ≠ [] := by
        intro h
        have := congrArg List.length h
        rw [List.length_drop, ← HZ.out] at this
        simp at this
        omega
      have hN : nextS (s.extract pos s.size) = nextL (l.drop pos) := by rw [next_drop, HL.out]
      have cN := next_any (s.extract pos s.size) wr (by simp; omega) (by unfold maxLen; simp; omega)
      unfold nextPost at cN
      rw [hN] at cN
      by_cases hbad : (decodeL (l.drop pos)).1 = 65533 ∧ (decodeL (l.drop pos)).2 = 1
      · have hV : Hid (validD l = false) := Lib.hid (by rw [hv.out, validD_step _ hne, if_pos hbad])
        have e0 : nextL (l.drop pos) = (0, 0) := by unfold nextL; rw [if_pos hbad]
        rw [e0] at cN
        clear hN hbad e0 hne
        have H := Lib.hid cN
        clear cN
        go_wp2_with (go_at_call 43; refine H.out.mono ?_; rintro e w' ⟨rfl, rfl⟩)
        go_ret2
        exact .inr ⟨hV.out, rfl, hb⟩
      · obtain ⟨R, hR⟩ : ∃ R, (decodeL (l.drop pos)).1 = R := ⟨_, rfl⟩
        obtain ⟨K, hK⟩ : ∃ K, (decodeL (l.drop pos)).2 = K := ⟨_, rfl⟩
        have hK1 : 1 ≤ K := by rw [← hK]; exact decodeL_width _
        have hK2 : pos + K ≤ s.size := by
          have := decodeL_le _ hne
          rw [hK, List.length_drop, ← HZ.out] at this
          omega
        have hR1 : R ≤ 1114111 := by rw [← hR]; exact decodeL_rune _
        have hV : Hid (validD l = validD (l.drop (pos + K))) := Lib.hid (by rw [hv.out, validD_step _ hne, if_neg hbad, List.drop_drop, hK])
        have hRR : Hid (runes l = (pre ++ [R]) ++ runes (l.drop (pos + K))) := Lib.hid (by rw [hr.out, runes_step _ hne, List.drop_drop, hK, hR]; simp)
        have e0 : nextL (l.drop pos) = (R, K) := by unfold nextL; rw [if_neg hbad, ← hR, ← hK]
        rw [e0] at cN
        clear hN hbad e0 hne hR hK hv hr
        have H := Lib.hid cN
        clear cN
        have k0 : ((K : Int) == 0) = false := by simp; omega
        obtain ⟨g', rfl⟩ : ∃ g', gk = g' + 1 := ⟨gk - 1, by omega⟩
        go_wp2_with (first
          | (go_at_call 43; refine H.out.mono ?_; rintro e w' ⟨rfl, rfl⟩)
          | (at_builtin; go_must (refine wpList_append_own _ rfl (.tmp 21) (.tmp 23) 54 rfl w.heap.size 3 i0 (.int .i64 0) 1 8 Tryz.underlying54 hi hz0 hz1 hz2 rfl (by decide) _ _ _ rfl (hown.alloc _) ⟨wr.heap.size, 0, none⟩ 1 1 [.int .i64 (R : Int)] rfl rfl (cell_one_new _ _ _) (by intro u hu; simp at hu; subst hu; rfl) (by unfold maxLen; omega) (by omega) (by have := hb.size; simp; omega) ?_; intro v3 w3 hown3 hgrow3 hnil3)))
        go_roundg g'
        case measure => omega
        case rel =>
          refine ⟨pos + K, pre ++ [R], by go_num, hK2, by omega, hV, hRR, by simp; omega, ?_, ?_⟩
          · rw [List.length_append, cellsI_snoc]; exact hown3
          · exact (hb.alloc hb.size _).grown hgrow3 (by have := hb.size; simp; omega) (fun j hj => (hown.lt j hj).1)
    · obtain rfl : pos = s.size := by omega
      have hnil : l.drop s.size = [] := List.drop_eq_nil_of_le (by rw [HZ.out]; omega)
      have hV : Hid (validD l = true) := Lib.hid (by rw [hv.out, hnil]; rfl)
      have hRR : Hid (runes l = pre) := Lib.hid (by rw [hr.out, hnil, runes_nil]; simp)
      clear hnil hv hr
      go_wp2
      go_ret2
      exact .inl ⟨hV.out, _, rfl, by rw [hRR.out]; exact hown, hb⟩
end Go.Proofs.YtpdaldpaceolnaaGreatDoor
namespace Go.Proofs.YtpdaldpaceolnaaGreatDoor
open Go.RowKit Go.Lib
set_option maxRecDepth 100000
def xmlN (r : Nat) : Bool := xmlB (r : Int)
def validX (l : List UInt8) : Bool := validD l && (runes l).all xmlN
theorem own_read {w : World} {B n : Nat} {v : Value} {xs : List Nat} (h : w.ownsRow B 3 1 v n (cellsI xs)) :
    ∃ A cap, v = .slice A n cap ∧ xs.length = n ∧ ∀ k, k < n → ∃ g, A = some ⟨g, 0, none⟩ ∧ w.cell? ⟨g, k, none⟩ = some (.int .i64 ((xs.getD k 0 : Nat) : Int)) := by
  have hl : xs.length = n := by have := h.1; simpa [cellsI] using this
  rcases h.2 with ⟨rfl, hn⟩ | ⟨g, cap, cur, rfl, hB, hh, hnc, hcm, hcs, hct⟩
  · subst hn; exact ⟨none, 0, rfl, hl, fun k hk => absurd hk (by omega)⟩
  · refine ⟨some ⟨g, 0, none⟩, cap, rfl, hl, fun k hk => ⟨g, rfl, ?_⟩⟩
    have hc := h.cells (g := g) rfl k (.int .i64 ((xs.getD k 0 : Nat) : Int)) (by
      unfold cellsI
      rw [List.getElem?_map, List.getD_eq_getElem?_getD, List.getElem?_eq_getElem (by omega)]; rfl)
    by_cases k0 : k = 0
    · subst k0; simpa [Addr.add] using hc
    · simpa [Addr.add, k0] using hc
theorem all_take_succ (xs : List Nat) (p : Nat → Bool) (k : Nat) (hk : k < xs.length) : (xs.take (k + 1)).all p = ((xs.take k).all p && p (xs.getD k 0)) := by
  rw [List.take_succ_eq_append_getElem hk, List.all_append, List.getD_eq_getElem?_getD, List.getElem?_eq_getElem hk]
  simp

set_option maxHeartbeats 1000000 in
theorem valid_ref (s : ByteArray) (w : World) (hs : s.size ≤ 1099511627776) : Calls Tryz.prog 14 #[.string s] w fun e w' => e = .returned (.bool (validX s.data.toList)) ∧ Below w.heap.size w w' := by
  have cP := points_ref s w hs
  obtain ⟨l, hl⟩ : ∃ l, s.data.toList = l := ⟨_, rfl⟩
  rw [hl] at cP ⊢
  have hsz : l.length = s.size := by rw [← hl]; simp
  have hrl := runes_le l
  clear hl
  unfold validX
  obtain ⟨xs, hxs⟩ : ∃ xs, runes l = xs := ⟨_, rfl⟩
  unfold ptsOut at cP
  rw [hxs] at cP hrl ⊢
  rw [hsz] at hrl
  clear hxs hsz
  obtain ⟨V, hV⟩ : ∃ V, validD l = V := ⟨_, rfl⟩
  rw [hV] at cP ⊢
  clear hV
  have H := Lib.hid cP
  clear cP
  go_enter Tryz.func14, Tryz.ntmps14
  go_wp2_with fail
  refine H.out.mono ?_
  rintro e w1 (⟨rfl, v, rfl, hown, hb⟩ | ⟨rfl, rfl, hb⟩)
  · obtain ⟨A, cap, rfl, hxl, hrd⟩ := own_read hown
    clear hown H
    have XL := Lib.hid hxl
    have RD := Lib.hid hrd
    clear hrd hxl
    obtain ⟨n, hn⟩ : ∃ n, xs.length = n := ⟨_, rfl⟩
    rw [hn] at RD XL hrl ⊢
    have HN := Lib.hid hn
    clear hn XL
    go_wp2
    go_loop [4, 5] (fun o i => ∃ k : Nat, k ≤ n ∧ i = .int .i64 k ∧ o = .bool ((xs.take k).all xmlN)) (fun _ i => n - (intOf i).toNat)
    case atStart => exact ⟨0, Nat.zero_le _, rfl, by simp⟩
    case round =>
      obtain ⟨k, hk, rfl, rfl⟩ := hrel
      by_cases hlt : k < n
      · obtain ⟨g, rfl, hc⟩ := RD.out k hlt
        have hts := Lib.hid (all_take_succ xs xmlN k (by rw [HN.out]; exact hlt))
        obtain ⟨x, hx⟩ : ∃ x, xs.getD k 0 = x := ⟨_, rfl⟩
        rw [hx] at hc hts
        have cX := xml_any (x : Int) w1
        rw [show xmlB (x : Int) = xmlN x from rfl] at cX
        cases hbv : (xs.take k).all xmlN
        · rw [hbv] at hts
          clear hbv hx cX
          go_wp2
          go_round
          case rel => exact ⟨k + 1, by omega, by go_num, by rw [hts.out]; rfl⟩
          case measure => simp [intOf]; omega
        · rw [hbv] at hts
          clear hbv hx
          have HX := Lib.hid cX
          clear cX
          go_wp2_with (go_at_call 24; refine HX.out.mono ?_; rintro e w' ⟨rfl, rfl⟩)
          go_round
          case rel => exact ⟨k + 1, by omega, by go_num, by rw [hts.out]; rfl⟩
          case measure => simp [intOf]; omega
      · obtain rfl : k = n := by omega
        go_wp2
        go_ret
        exact ⟨by rw [List.take_of_length_le (by rw [HN.out]; omega)]; rfl, hb⟩
  · clear H
    go_wp2
    go_loop [4, 5] (fun o i => i = .int .i64 0 ∧ o = .bool false) (fun _ _ => 0)
    case atStart => exact ⟨rfl, rfl⟩
    case round =>
      obtain ⟨rfl, rfl⟩ := hrel
      go_wp2
      go_ret
      exact ⟨rfl, hb⟩
end Go.Proofs.YtpdaldpaceolnaaGreatDoor
namespace Go.Proofs.YtpdaldpaceolnaaGreatDoor
open Go.RowKit Go.Lib
set_option maxRecDepth 100000
def okP (k x : Nat) : Prop := letterP (x : Int) ∨ (0 < k ∧ followP (x : Int))
instance (k x : Nat) : Decidable (okP k x) := by unfold okP; infer_instance
def nameP (xs : List Nat) : Prop := xs ≠ [] ∧ ∀ k, k < xs.length → okP k (xs.getD k 0)
def nameB (xs : List Nat) : Bool := !xs.isEmpty && (List.range xs.length).all fun k => decide (okP k (xs.getD k 0))
theorem nameB_true {xs : List Nat} (hne : xs ≠ []) (h : ∀ k, k < xs.length → okP k (xs.getD k 0)) : nameB xs = true := by
  unfold nameB
  simp [hne]
  intro k hk
  have := h k hk
  simpa [List.getD_eq_getElem?_getD] using this
theorem nameB_false {xs : List Nat} (k : Nat) (hk : k < xs.length) (h : ¬ okP k (xs.getD k 0)) : nameB xs = false := by
  unfold nameB
  rw [Bool.and_eq_false_iff]
  right
  rw [List.all_eq_false]
  exact ⟨k, List.mem_range.2 hk, by simpa using h⟩
def nameX (l : List UInt8) : Bool := validX l && nameB (runes l)

end Go.Proofs.YtpdaldpaceolnaaGreatDoor
namespace Go.Proofs.YtpdaldpaceolnaaGreatDoor
open Go.RowKit Go.Lib
set_option maxRecDepth 100000
def spN (b : UInt8) : Bool := spaceB (b.toNat : Int)
def trimB (l : List UInt8) : List UInt8 := ((l.dropWhile spN).reverse.dropWhile spN).reverse
theorem dropWhile_all {p : UInt8 → Bool} : ∀ (a b : List UInt8), (∀ x ∈ a, p x = true) → (a ++ b).dropWhile p = b.dropWhile p
  | [], _, _ => rfl
  | x :: a, b, h => by
    rw [List.cons_append, List.dropWhile_cons, h x (by simp), if_pos rfl]
    exact dropWhile_all a b fun y hy => h y (by simp [hy])
theorem dropWhile_head {p : UInt8 → Bool} (x : UInt8) (a : List UInt8) (h : p x = false) : (x :: a).dropWhile p = x :: a := by rw [List.dropWhile_cons, h]; rfl
/-- the two ends of what is left -/
def endsOk (m : List UInt8) : Prop := m = [] ∨ (∃ x t, m = x :: t ∧ spN x = false) ∧ (∃ t y, m = t ++ [y] ∧ spN y = false)
theorem trimB_of (p m q : List UInt8) (hp : ∀ x ∈ p, spN x = true) (hq : ∀ x ∈ q, spN x = true) (hm : endsOk m) : trimB (p ++ m ++ q) = m := by
  unfold trimB
  rw [List.append_assoc, dropWhile_all p _ hp]
  rcases hm with rfl | ⟨⟨x, t, hx, hxs⟩, t', y, hy, hys⟩
  · rw [List.nil_append, show q.dropWhile spN = [] from by simpa using dropWhile_all q [] hq]; rfl
  · rw [show (m ++ q).dropWhile spN = m ++ q from by rw [hx, List.cons_append]; exact dropWhile_head _ _ hxs]
    rw [List.reverse_append, dropWhile_all _ _ (by simpa using hq)]
    rw [show m.reverse.dropWhile spN = m.reverse from by rw [hy, List.reverse_append]; exact dropWhile_head _ _ hys, List.reverse_reverse]
theorem mem_take_get {l : List UInt8} {k : Nat} {x : UInt8} (h : x ∈ l.take k) : ∃ j, j < k ∧ j < l.length ∧ l.getD j 0 = x := by
  obtain ⟨j, hj, e⟩ := List.mem_iff_getElem.1 h
  rw [List.length_take] at hj
  exact ⟨j, by omega, by omega, by rw [List.getD_eq_getElem?_getD, List.getElem?_eq_getElem (by omega)]; simpa using e⟩
theorem mem_drop_get {l : List UInt8} {k : Nat} {x : UInt8} (h : x ∈ l.drop k) : ∃ j, k ≤ j ∧ j < l.length ∧ l.getD j 0 = x := by
  obtain ⟨j, hj, e⟩ := List.mem_iff_getElem.1 h
  rw [List.length_drop] at hj
  exact ⟨k + j, by omega, by omega, by rw [List.getD_eq_getElem?_getD, List.getElem?_eq_getElem (by omega)]; simpa using e⟩
/-- by places -/
theorem trimB_at (l : List UInt8) (i j : Nat) (hij : i ≤ j) (hj : j ≤ l.length) (h1 : ∀ k, k < i → spN (l.getD k 0) = true) (h2 : ∀ k, j ≤ k → k < l.length → spN (l.getD k 0) = true)
    (h3 : i = j ∨ spN (l.getD i 0) = false) (h4 : i = j ∨ spN (l.getD (j - 1) 0) = false) : trimB l = (l.take j).drop i := by
  have e : l = (l.take j).take i ++ (l.take j).drop i ++ l.drop j := by rw [List.take_append_drop, List.take_append_drop]
  conv => lhs; rw [e]
  refine trimB_of _ _ _ ?_ ?_ ?_
  · intro x hx
    rw [List.take_take, Nat.min_eq_left hij] at hx
    obtain ⟨k, hk, _, rfl⟩ := mem_take_get hx
    exact h1 k hk
  · intro x hx
    obtain ⟨k, hk, hk2, rfl⟩ := mem_drop_get hx
    exact h2 k hk hk2
  · by_cases c : i = j
    · left; subst c; simp
    · right
      have hi : i < (l.take j).length := by rw [List.length_take]; omega
      have hl : ((l.take j).drop i).length = j - i := by rw [List.length_drop, List.length_take]; omega
      constructor
      · refine ⟨(l.take j)[i], (l.take j).drop (i + 1), List.drop_eq_getElem_cons hi, ?_⟩
        have := h3.resolve_left c
        rw [List.getD_eq_getElem?_getD, List.getElem?_eq_getElem (by omega)] at this
        simpa using this
      · have hne : (l.take j).drop i ≠ [] := by intro h; rw [h] at hl; simp at hl; omega
        refine ⟨((l.take j).drop i).dropLast, ((l.take j).drop i).getLast hne, (List.dropLast_concat_getLast hne).symm, ?_⟩
        have := h4.resolve_left c
        rw [List.getD_eq_getElem?_getD, List.getElem?_eq_getElem (by omega)] at this
        rw [List.getLast_eq_getElem, List.getElem_drop]
        simp only [List.getElem_take]
        simp only [hl]
        simpa [show i + (j - i - 1) = j - 1 from by omega] using this
end Go.Proofs.YtpdaldpaceolnaaGreatDoor
namespace Go.Proofs.YtpdaldpaceolnaaGreatDoor
open Go.RowKit Go.Lib
set_option maxRecDepth 100000
def spAt (s : ByteArray) (k : Nat) : Bool := spN (s.data.toList.getD k 0)
theorem spAt_get (s : ByteArray) (k : Nat) (h : k < s.size) : spaceB ((s[k]'h).toNat : Int) = spAt s k := by
  unfold spAt spN
  rw [bN_get s k h]; rfl
def trimPost (s : ByteArray) (w : World) (e : Ending) (w' : World) : Prop := ∃ i j, i ≤ j ∧ j ≤ s.size ∧ e = .returned (.string (s.extract i j)) ∧ (s.extract i j).data.toList = trimB s.data.toList ∧ w = w'
end Go.Proofs.YtpdaldpaceolnaaGreatDoor
namespace Go.Proofs.YtpdaldpaceolnaaGreatDoor
open Go.RowKit Go.Lib
set_option maxRecDepth 100000
def colGo : Bool → List UInt8 → List UInt8
  | _, [] => []
  | prev, b :: t => if spN b = true then (if prev = true then colGo true t else 32 :: colGo true t) else b :: colGo false t
def normB (l : List UInt8) : List UInt8 := colGo true (trimB l)
theorem colGo_at (prev : Bool) (l : List UInt8) (k : Nat) (hk : k < l.length) : colGo prev (l.drop k) =
    if spN (l.getD k 0) = true then (if prev = true then colGo true (l.drop (k + 1)) else 32 :: colGo true (l.drop (k + 1))) else l.getD k 0 :: colGo false (l.drop (k + 1)) := by
  rw [List.drop_eq_getElem_cons hk, colGo, List.getD_eq_getElem?_getD, List.getElem?_eq_getElem hk]
  rfl
theorem trimB_ends (l : List UInt8) : trimB l = [] ∨ spN ((trimB l).getD 0 0) = false := by
  unfold trimB
  obtain ⟨a, ha⟩ : ∃ a, l.dropWhile spN = a := ⟨_, rfl⟩
  have hh : a = [] ∨ spN (a.getD 0 0) = false := by
    rw [← ha]
    cases h : l.dropWhile spN with
    | nil => exact .inl rfl
    | cons x t =>
      right
      have := List.head_dropWhile_not spN (l := l) (by rw [h]; simp)
      simp only [h] at this
      simpa using this
  rw [ha]
  obtain ⟨b, hb⟩ : ∃ b, a.reverse.dropWhile spN = b := ⟨_, rfl⟩
  rw [hb]
  by_cases hn : b = []
  · left; simp [hn]
  · right
    have hne : a ≠ [] := by rintro rfl; simp at hb; exact hn hb
    -- b is a suffix of a.reverse, so b.reverse is a prefix of a
    have hsuf : b <:+ a.reverse := by rw [← hb]; exact List.dropWhile_suffix _
    have hpre : b.reverse <+: a := by have := List.reverse_prefix.2 hsuf; simpa using this
    obtain ⟨c, hc⟩ := hpre
    have hbl : 0 < b.reverse.length := by simp [List.length_pos_iff, hn]
    have h1 := hh.resolve_left hne
    rw [← hc] at h1
    rw [List.getD_eq_getElem?_getD, List.getElem?_append_left hbl] at h1
    rwa [List.getD_eq_getElem?_getD]
def normPost (s : ByteArray) (w : World) (e : Ending) (w' : World) : Prop := ∃ o : ByteArray, e = .returned (.string o) ∧ o.data.toList = normB s.data.toList ∧ w = w'
theorem extract_one (s : ByteArray) (k : Nat) (hk : k < s.size) : (s.extract k (k + 1)).data.toList = [s.data.toList.getD k 0] := by
  have h' : k < s.data.toList.length := by simpa using hk
  rw [extract_list, List.drop_take, List.drop_eq_getElem_cons h', show k + 1 - k = 1 from by omega, List.getD_eq_getElem?_getD, List.getElem?_eq_getElem h']
  rfl
theorem append_list (a b : ByteArray) : (a ++ b).data.toList = a.data.toList ++ b.data.toList := by simp [ByteArray.data_append]

def normRel (s t : ByteArray) (so si : Value) : Prop := ∃ (k : Nat) (o : ByteArray) (pb : Bool), k ≤ t.size ∧ si = .int .i64 k ∧ so = .string o ∧ o.size ≤ k ∧ (k = 0 ∨ pb = spAt t (k - 1)) ∧ Hid (normB s.data.toList = o.data.toList ++ colGo pb (t.data.toList.drop k))
end Go.Proofs.YtpdaldpaceolnaaGreatDoor
namespace Go.Proofs.YtpdaldpaceolnaaGreatDoor
open Go.RowKit Go.Lib
set_option maxRecDepth 100000
set_option maxHeartbeats 1000000 in
theorem validOne_any (k a : Int) (r : Nat) (hr : r ≤ 1114111) (w : World) : Calls Tryz.prog 27 #[.int .i64 k, .int .i64 a, .int .i32 r] w fun e w' => e = .returned (.bool (xmlN r)) ∧ w = w' := by
  have H := Lib.hid (listed_any (r : Int))
  rw [show xmlB (r : Int) = xmlN r from rfl] at H
  go_enter Tryz.func27, Tryz.ntmps27
  go_wp2_with (go_at_call 28; refine (H.out _).mono ?_; rintro e w' ⟨rfl, rfl⟩)
  go_ret
  exact ⟨rfl, rfl⟩
def okB (k r : Nat) : Bool := decide (okP k r)
set_option maxHeartbeats 1000000 in
theorem nameOne_any (k : Nat) (a : Int) (r : Nat) (_hr : r ≤ 1114111) (w : World) : Calls Tryz.prog 57 #[.int .i64 k, .int .i64 a, .int .i32 r] w fun e w' => e = .returned (.bool (okB k r)) ∧ w = w' := by
  cases hL : letterB (r : Int)
  · have H := Lib.hid (letter_any (r : Int))
    rw [hL] at H
    rcases Nat.eq_zero_or_pos k with rfl | hk
    · have E : Hid (okB 0 r = false) := Lib.hid (by
        have h : ¬ letterP (r : Int) := by rw [← letterB_iff, hL]; simp
        unfold okB; rw [decide_eq_false_iff_not]; unfold okP
        intro h'; rcases h' with h' | h'
        · exact h h'
        · exact absurd h'.1 (by omega))
      clear hL
      go_enter Tryz.func57, Tryz.ntmps57
      go_wp2_with (go_at_call 58; refine (H.out _).mono ?_; rintro e w' ⟨rfl, rfl⟩)
      go_ret
      exact ⟨ret_bool E.out.symm, rfl⟩
    · have H2 := Lib.hid (follows_any (r : Int))
      have E : Hid (okB k r = followB (r : Int)) := Lib.hid (by
        have : ¬ letterP (r : Int) := by rw [← letterB_iff, hL]; simp
        rw [Bool.eq_iff_iff, followB_iff]; unfold okB; rw [decide_eq_true_iff]; unfold okP
        constructor
        · intro h; rcases h with h | h; exact absurd h this; exact h.2
        · intro h; exact .inr ⟨hk, h⟩)
      clear hL
      go_enter Tryz.func57, Tryz.ntmps57
      go_wp2_with (first | (go_at_call 58; refine (H.out _).mono ?_; rintro e w' ⟨rfl, rfl⟩) | (go_at_call 59; refine (H2.out _).mono ?_; rintro e w' ⟨rfl, rfl⟩))
      go_ret
      exact ⟨ret_bool E.out.symm, rfl⟩
  · have H := Lib.hid (letter_any (r : Int))
    rw [hL] at H
    have E : Hid (okB k r = true) := Lib.hid (by unfold okB; rw [decide_eq_true_iff]; exact .inl ((letterB_iff _).1 hL))
    clear hL
    go_enter Tryz.func57, Tryz.ntmps57
    go_wp2_with (go_at_call 58; refine (H.out _).mono ?_; rintro e w' ⟨rfl, rfl⟩)
    go_ret
    exact ⟨ret_bool E.out.symm, rfl⟩
end Go.Proofs.YtpdaldpaceolnaaGreatDoor
namespace Go.Proofs.YtpdaldpaceolnaaGreatDoor
open Go.RowKit Go.Lib
set_option maxRecDepth 100000
def allStep (s : ByteArray) (it : Nat) (I : Nat → Nat → World → Prop) (J : World → Prop) (k pos : Nat) (e : Ending) (w' : World) : Prop :=
  (e = .returned (.bool true) ∧ w'.heap[it]? = some (.stringIter s (pos + (Utf8.decode s pos).2)) ∧ I (k + 1) (pos + (Utf8.decode s pos).2) w') ∨ (e = .returned (.bool false) ∧ J w')
def allPost (s : ByteArray) (I : Nat → Nat → World → Prop) (J : World → Prop) (e : Ending) (w' : World) : Prop :=
  (e = .returned (.bool true) ∧ ∃ k, k ≤ s.size ∧ I k s.size w') ∨ (e = .returned (.bool false) ∧ J w')
def bothOf (b : Bool) (p q : Prop) : Prop := if b then p else q
theorem bothOf_t {p q : Prop} (h : bothOf true p q) : p := h
theorem bothOf_f {p q : Prop} (h : bothOf false p q) : q := h
def allRel (s : ByteArray) (it : Nat) (I : Nat → Nat → World → Prop) (gf : Nat) (v : Value) (wx : World) : Prop :=
  ∃ k pos : Nat, v = .int .i64 k ∧ I k pos wx ∧ wx.heap[it]? = some (.stringIter s pos) ∧ pos ≤ s.size ∧ s.size ≤ pos + gf ∧ k ≤ pos
set_option maxHeartbeats 1000000 in
theorem all_inv (g : Nat) (lb : Array Value) (eg : ∀ args w, (callFunc g args).run Tryz.prog w = .ok (.enter g args) w) (s : ByteArray) (w : World) (hs : s.size ≤ maxLen) (I : Nat → Nat → World → Prop) (J : World → Prop)
    (h0 : I 0 0 (w.iter s 0))
    (hstep : ∀ k pos W, k ≤ pos → pos < s.size → I k pos W → W.heap[w.heap.size]? = some (.stringIter s pos) →
      Calls Tryz.prog g (#[.int .i64 k, .int .i64 pos, .int .i32 (Utf8.decode s pos).1] ++ lb) (W.iterAt w.heap.size s (pos + (Utf8.decode s pos).2)) (allStep s w.heap.size I J k pos)) :
    Calls Tryz.prog 26 #[.string s, .func (.func g) #[] lb] w (allPost s I J) := by
  unfold maxLen at hs
  have HS := Lib.hid hstep
  have H0 := Lib.hid h0
  clear hstep h0
  go_enter Tryz.func26, Tryz.ntmps26
  go_wp2
  go_loopg [5] s.size (fun gf s5 wx => allRel s w.heap.size I gf s5 wx)
  case atStart => exact ⟨0, 0, rfl, H0.out, World.iter_heap w s 0, Nat.zero_le _, by omega, Nat.le_refl _⟩
  case round =>
    obtain ⟨k, pos, rfl, hI, hit, hps, hfu, hkp⟩ := hrel
    by_cases hlt : pos < s.size
    · obtain ⟨g', rfl⟩ : ∃ g', gk = g' + 1 := ⟨gk - 1, by omega⟩
      have hnx : ∀ ty, (Instr.next (.pointer (some ⟨w.heap.size, 0, none⟩)) true ty).run Tryz.prog wr = _ := fun ty => Lib.run_next_any_at wr w.heap.size s pos ty hit hlt
      have hwd := Lib.width_pos s pos
      have hwn : pos + (Utf8.decode s pos).2 ≤ s.size := by
        have := Lib.decodeN_le_n' (s.size - pos) (s.get! pos).toNat (s.get! (pos + 1)).toNat (s.get! (pos + 2)).toNat (s.get! (pos + 3)).toNat (by omega)
        rw [← Lib.decode_at] at this
        omega
      have cS := HS.out k pos wr hkp hlt hI hit
      unfold allStep at cS
      obtain ⟨R, hR⟩ : ∃ R, (Utf8.decode s pos).1 = R := ⟨_, rfl⟩
      obtain ⟨K, hK⟩ : ∃ K, (Utf8.decode s pos).2 = K := ⟨_, rfl⟩
      rw [hR, hK] at hnx cS
      rw [hK] at hwd hwn
      obtain ⟨W, hWd⟩ : ∃ W, wr.iterAt w.heap.size s (pos + K) = W := ⟨_, rfl⟩
      rw [hWd] at hnx cS
      have CS := Lib.hid cS
      have HI := Lib.hid hit
      clear hI hit HS cS hR hK hWd HI H0
      go_wp2_with (go_at_fn g; go_must (refine CS.out.mono ?_))
      rintro e w' h
      have h' : ∃ b, e = .returned (.bool b) ∧ bothOf b (w'.heap[w.heap.size]? = some (.stringIter s (pos + K)) ∧ I (k + 1) (pos + K) w') (J w') := by
        rcases h with ⟨rfl, a, b⟩ | ⟨rfl, a⟩
        · exact ⟨true, rfl, ⟨a, b⟩⟩
        · exact ⟨false, rfl, a⟩
      clear h CS
      obtain ⟨b, rfl, h1⟩ := h'
      cases b
      · have h2 := Lib.hid (bothOf_f h1)
        clear h1
        go_wp2
        go_ret
        exact .inr ⟨rfl, h2.out⟩
      · have h2 := Lib.hid (bothOf_t h1)
        clear h1
        go_wp2
        go_roundg g'
        case measure => omega
        case rel => exact ⟨k + 1, pos + K, by go_num, h2.out.2, h2.out.1, hwn, by omega, by omega⟩
    · obtain rfl : pos = s.size := by omega
      have hnx : ∀ ty, (Instr.next (.pointer (some ⟨w.heap.size, 0, none⟩)) true ty).run Tryz.prog wr = _ := fun ty => Lib.run_next_end_at wr w.heap.size s s.size ty hit hlt
      have HI := Lib.hid hI
      clear hI hit HS H0
      go_wp2
      go_ret
      exact .inl ⟨rfl, k, hkp, HI.out⟩
end Go.Proofs.YtpdaldpaceolnaaGreatDoor
namespace Go.Proofs.YtpdaldpaceolnaaGreatDoor
open Go.RowKit Go.Lib
set_option maxHeartbeats 4000000
set_option maxRecDepth 100000
def allQ (q : Nat → Nat → Bool) : Nat → List Nat → Bool
  | _, [] => true
  | k, r :: t => q k r && allQ q (k + 1) t
theorem drop_ne (l : List UInt8) (pos : Nat) (h : pos < l.length) : l.drop pos ≠ [] := by
  intro e
  have := congrArg List.length e
  simp at this
  omega
theorem runes_drop (l : List UInt8) (pos : Nat) (h : pos < l.length) : runes (l.drop pos) = (decodeL (l.drop pos)).1 :: runes (l.drop (pos + (decodeL (l.drop pos)).2)) := by
  rw [runes_step _ (drop_ne l pos h), List.drop_drop]
theorem below_iter (w : World) (s : ByteArray) : Below w.heap.size w (w.iter s 0) := (Below.refl _ _).alloc (Nat.le_refl _) _
theorem all_pure (g : Nat) (eg : ∀ args w, (callFunc g args).run Tryz.prog w = .ok (.enter g args) w) (q : Nat → Nat → Bool)
    (hq : ∀ (k a r : Nat), r ≤ 1114111 → ∀ W : World, Calls Tryz.prog g #[.int .i64 k, .int .i64 a, .int .i32 r] W fun e w' => e = .returned (.bool (q k r)) ∧ W = w')
    (s : ByteArray) (w : World) (hs : s.size ≤ maxLen) :
    Calls Tryz.prog 26 #[.string s, .func (.func g) #[] #[]] w fun e w' => e = .returned (.bool (allQ q 0 (runes s.data.toList))) ∧ Below w.heap.size w w' := by
  have hz : s.data.toList.length = s.size := by simp
  refine (all_inv g #[] eg s w hs (fun k pos W => Below w.heap.size w W ∧ allQ q 0 (runes s.data.toList) = allQ q k (runes (s.data.toList.drop pos))) (fun W => Below w.heap.size w W ∧ allQ q 0 (runes s.data.toList) = false) ?_ ?_).mono ?_
  · exact ⟨below_iter w s, rfl⟩
  · rintro k pos W hk hp ⟨hb, he⟩ hit
    rw [runes_drop _ _ (by rw [hz]; exact hp), decodeL_drop] at he
    refine (hq k pos (Utf8.decode s pos).1 (rune_le s pos) _).mono ?_
    rintro e w' ⟨rfl, rfl⟩
    have hb' := Lib.below_iterAt hb (Nat.le_refl _) s (pos + (Utf8.decode s pos).2)
    cases hv : q k (Utf8.decode s pos).1
    · exact .inr ⟨rfl, hb', by rw [he, allQ, hv]; rfl⟩
    · exact .inl ⟨rfl, Lib.iterAt_heap W _ s pos _ hit, hb', by rw [he, allQ, hv]; rfl⟩
  · rintro e w' (⟨rfl, k, hk, hb, he⟩ | ⟨rfl, hb, he⟩)
    · rw [List.drop_eq_nil_of_le (by rw [hz]; exact Nat.le_refl _)] at he
      exact ⟨by rw [he]; rfl, hb⟩
    · exact ⟨by rw [he], hb⟩
theorem allQ_const (p : Nat → Bool) : ∀ (k : Nat) (l : List Nat), allQ (fun _ r => p r) k l = l.all p
  | _, [] => rfl
  | k, r :: t => by rw [allQ, List.all_cons, allQ_const p (k + 1) t]
theorem allQ_name : ∀ (t : List Nat) (k : Nat), allQ okB k t = (List.range t.length).all fun j => decide (okP (k + j) (t.getD j 0))
  | [], _ => rfl
  | r :: t, k => by
    rw [allQ, allQ_name t (k + 1), List.length_cons, List.range_succ_eq_map, List.all_cons, List.all_map]
    congr 1
    apply congrArg (fun f => (List.range t.length).all f)
    funext j
    simp only [Function.comp, List.getD_cons_succ]
    rw [show k + 1 + j = k + (j + 1) from by omega]
theorem allQ_nameB (xs : List Nat) (hne : xs ≠ []) : allQ okB 0 xs = nameB xs := by
  rw [allQ_name]; unfold nameB; simp [hne]
def tabs (w : World) : Prop := Lib.Utf8Tabs 0 1 w
theorem e29 : ∀ args w, (callFunc 27 args).run Tryz.prog w = .ok (.enter 27 args) w := enters_of Tryz.func27 (by kernel_rfl) rfl
theorem e31 : ∀ args w, (callFunc 57 args).run Tryz.prog w = .ok (.enter 57 args) w := enters_of Tryz.func57 (by kernel_rfl) rfl
theorem allValid (s : ByteArray) (w : World) (hs : s.size ≤ maxLen) :
    Calls Tryz.prog 26 #[.string s, .func (.func 27) #[] #[]] w fun e w' => e = .returned (.bool ((runes s.data.toList).all xmlN)) ∧ Below w.heap.size w w' := by
  have := all_pure 27 e29 (fun _ r => xmlN r) (fun k a r hr W => validOne_any k a r hr W) s w hs
  rwa [allQ_const] at this
theorem allName (s : ByteArray) (w : World) (hs : s.size ≤ maxLen) :
    Calls Tryz.prog 26 #[.string s, .func (.func 57) #[] #[]] w fun e w' => e = .returned (.bool (allQ okB 0 (runes s.data.toList))) ∧ Below w.heap.size w w' :=
  all_pure 57 e31 okB (fun k a r hr W => nameOne_any k a r hr W) s w hs
end Go.Proofs.YtpdaldpaceolnaaGreatDoor
namespace Go.Proofs.YtpdaldpaceolnaaGreatDoor
open Go.RowKit Go.Lib
set_option maxRecDepth 100000
def vS (s : ByteArray) : Bool := validX s.data.toList
def strsAt (w : World) (A : Option Addr) (ss : List ByteArray) : Prop := ∀ k, k < ss.length → ∃ g, A = some ⟨g, 0, none⟩ ∧ g < w.heap.size ∧ w.cell? ⟨g, k, none⟩ = some (.string (ss.getD k ByteArray.empty)) ∧ (ss.getD k ByteArray.empty).size ≤ maxLen
theorem allS_succ (ss : List ByteArray) (p : ByteArray → Bool) (k : Nat) (hk : k < ss.length) : (ss.take (k + 1)).all p = ((ss.take k).all p && p (ss.getD k ByteArray.empty)) := by
  rw [List.take_succ_eq_append_getElem hk, List.all_append, List.getD_eq_getElem?_getD, List.getElem?_eq_getElem hk]
  simp
theorem allS_false (ss : List ByteArray) (p : ByteArray → Bool) (k : Nat) (hk : k < ss.length) (h : p (ss.getD k ByteArray.empty) = false) : ss.all p = false := by
  rw [List.all_eq_false]
  refine ⟨ss[k], List.getElem_mem hk, ?_⟩
  rw [List.getD_eq_getElem?_getD, List.getElem?_eq_getElem hk] at h
  simpa using h
def validRel (w : World) (ss : List ByteArray) (n : Nat) (i : Value) (wx : World) : Prop := ∃ k : Nat, k ≤ n ∧ i = .int .i64 k ∧ Below w.heap.size w wx ∧ (ss.take k).all vS = true
set_option maxHeartbeats 1000000 in
theorem valid_any (A : Option Addr) (n cap : Nat) (ss : List ByteArray) (w : World) (hn : ss.length = n) (hn2 : n ≤ 1099511627776) (hT : tabs w) (hc : strsAt w A ss) :
    Calls Tryz.prog 15 #[.slice A n cap] w fun e w' => e = .returned (.bool (ss.all vS)) ∧ Below w.heap.size w w' := by
  have HN := Lib.hid hn
  have HC := Lib.hid hc
  have HT := Lib.hid hT
  clear hn hc hT
  go_enter Tryz.func15, Tryz.ntmps15
  go_wp2
  go_loopw [7] (fun i wx => validRel w ss n i wx) (fun i _ => n - (intOf i).toNat)
  case atStart => exact ⟨0, Nat.zero_le _, rfl, Below.refl _ _, by simp⟩
  case round =>
    obtain ⟨k, hk, rfl, hb, hall⟩ := hrel
    have HA := Lib.hid hall
    clear hall
    by_cases hlt : k < n
    · obtain ⟨g, rfl, hg, hcell, hsz⟩ := HC.out k (by rw [HN.out]; exact hlt)
      have hcell2 := (hb.cell (p := ⟨g, k, none⟩) hg).trans hcell
      have hsucc := Lib.hid (allS_succ ss vS k (by rw [HN.out]; exact hlt))
      have hfalse := Lib.hid (allS_false ss vS k (by rw [HN.out]; exact hlt))
      obtain ⟨s, hs⟩ : ∃ s, ss.getD k ByteArray.empty = s := ⟨_, rfl⟩
      rw [hs] at hcell2 hsucc hfalse hsz
      have c1 := Tryz.utf8_ValidString s wr (by unfold maxLen at hsz; omega) (Utf8Tabs_below HT.out hb)
      have c2 := fun W => allValid s W hsz
      have hv : vS s = (validD s.data.toList && (runes s.data.toList).all xmlN) := rfl
      obtain ⟨V, hV⟩ : ∃ V, validD s.data.toList = V := ⟨_, rfl⟩
      obtain ⟨X, hX⟩ : ∃ X, (runes s.data.toList).all xmlN = X := ⟨_, rfl⟩
      rw [hV] at c1 hv
      rw [hX] at c2 hv
      clear hV hX hs hcell
      have C1 := Lib.hid c1
      have C2 := Lib.hid c2
      clear c1 c2
      cases V
      · have hf := Lib.hid (hfalse.out (by rw [hv]; rfl))
        clear hv hfalse hsucc C2
        go_wp2_with (go_at_call 25; refine C1.out.mono ?_; rintro e w1 ⟨rfl, hb1⟩)
        go_ret
        exact ⟨ret_bool hf.out.symm, hb.trans (hb1.mono hb.size)⟩
      · cases X
        · have hf := Lib.hid (hfalse.out (by rw [hv]; rfl))
          clear hv hfalse hsucc
          go_wp2_with (first
            | (go_at_call 25; refine C1.out.mono ?_; rintro e w1 ⟨rfl, hb1⟩)
            | (go_at_call 26; refine (C2.out _).mono ?_; rintro e w2 ⟨rfl, hb2⟩))
          go_ret
          exact ⟨ret_bool hf.out.symm, (hb.trans (hb1.mono hb.size)).trans (hb2.mono (Nat.le_trans hb.size hb1.size))⟩
        · have hf : Hid ((ss.take (k + 1)).all vS = true) := Lib.hid (by rw [hsucc.out, HA.out, hv]; rfl)
          clear hv hfalse hsucc
          go_wp2_with (first
            | (go_at_call 25; refine C1.out.mono ?_; rintro e w1 ⟨rfl, hb1⟩)
            | (go_at_call 26; refine (C2.out _).mono ?_; rintro e w2 ⟨rfl, hb2⟩))
          go_roundw
          case rel => exact ⟨k + 1, by omega, by go_num, (hb.trans (hb1.mono hb.size)).trans (hb2.mono (Nat.le_trans hb.size hb1.size)), hf.out⟩
          case measure => simp [intOf]; omega
    · obtain rfl : k = n := by omega
      have hf : Hid (ss.all vS = true) := Lib.hid (by have := HA.out; rwa [List.take_of_length_le (by rw [HN.out]; exact Nat.le_refl _)] at this)
      clear HA
      go_wp2
      go_ret
      exact ⟨ret_bool hf.out.symm, hb⟩
end Go.Proofs.YtpdaldpaceolnaaGreatDoor
namespace Go.Proofs.YtpdaldpaceolnaaGreatDoor
open Go.RowKit Go.Lib
set_option maxRecDepth 100000
theorem validX_of {l : List UInt8} (h : validX l = false) : nameX l = false := by unfold nameX; rw [h]; rfl
theorem nameX_nil : nameX [] = false := by unfold nameX nameB; rw [runes_nil]; simp
theorem nameX_of {l : List UInt8} (hv : validX l = true) (hne : l ≠ []) : nameX l = allQ okB 0 (runes l) := by
  unfold nameX; rw [hv, allQ_nameB]
  · rfl
  · rw [runes_step l hne]; simp
theorem one_str (w : World) (s : ByteArray) (hs : s.size ≤ maxLen) : strsAt (w.alloc (.cells #[.string s] 9)) (some ⟨w.heap.size, 0, none⟩) [s] := by
  intro k hk
  have : k = 0 := by simp at hk; omega
  subst this
  exact ⟨w.heap.size, rfl, by simp, by simp, hs⟩
set_option maxHeartbeats 1000000 in
theorem name_any (s : ByteArray) (w : World) (hs : s.size ≤ maxLen) (hT : tabs w) : Calls Tryz.prog 40 #[.string s] w fun e w' => e = .returned (.bool (nameX s.data.toList)) ∧ Below w.heap.size w w' := by
  by_cases h0 : s.data.toList = []
  · have E := Lib.hid h0
    have h1 : s.toList = [] := by rw [ByteArray.toList_eq]; exact h0
    clear h0
    go_enter Tryz.func40, Tryz.ntmps40
    go_wp2
    go_ret
    exact ⟨ret_bool (by rw [E.out, nameX_nil]), Below.refl _ _⟩
  · have h1 : ¬ s.toList = [] := by rw [ByteArray.toList_eq]; exact h0
    have h2 : (!s.toList.isEmpty) = true := by simpa using h1
    have h3 : s.toList.isEmpty = false := by simpa using h1
    have cV := valid_any (some ⟨w.heap.size, 0, none⟩) 1 1 [s] (w.alloc (.cells #[.string s] 9)) rfl (by omega) (Utf8Tabs_below hT ((Below.refl _ _).alloc (Nat.le_refl _) _)) (one_str w s hs)
    have cA := fun W => allName s W hs
    have hvs : [s].all vS = validX s.data.toList := by simp [vS]
    rw [hvs] at cV
    clear hvs
    have hba : Below w.heap.size w (w.alloc (.cells #[.string s] 9)) := (Below.refl _ _).alloc (Nat.le_refl _) _
    obtain ⟨X, hX⟩ : ∃ X, validX s.data.toList = X := ⟨_, rfl⟩
    rw [hX] at cV
    have CV := Lib.hid cV
    have CA := Lib.hid cA
    clear cV cA
    have E0 := Lib.hid h0
    clear h0
    cases X
    · have E := Lib.hid (validX_of hX)
      clear hX
      go_enter Tryz.func40, Tryz.ntmps40
      go_wp2_with (go_at_call 15; refine CV.out.mono ?_; rintro e w1 ⟨rfl, hb1⟩)
      go_ret
      exact ⟨ret_bool E.out.symm, hba.trans (hb1.mono hba.size)⟩
    · have E := Lib.hid (nameX_of hX E0.out)
      clear hX
      go_enter Tryz.func40, Tryz.ntmps40
      go_wp2_with (first
        | (go_at_call 15; refine CV.out.mono ?_; rintro e w1 ⟨rfl, hb1⟩)
        | (go_at_call 26; refine (CA.out _).mono ?_; rintro e w2 ⟨rfl, hb2⟩))
      go_ret
      exact ⟨ret_bool E.out.symm, (hba.trans (hb1.mono hba.size)).trans (hb2.mono (Nat.le_trans hba.size hb1.size))⟩
end Go.Proofs.YtpdaldpaceolnaaGreatDoor
