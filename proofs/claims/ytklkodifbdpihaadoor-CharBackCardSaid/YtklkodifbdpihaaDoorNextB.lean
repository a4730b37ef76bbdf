/- The reference reads a first character of three bytes as the plain function says. No condition beyond what the theorems state. -/
import Derived.Test.YtklkodifbdpihaaDoorNextA
namespace Go.Proofs.YtklkodifbdpihaaDoor
open Go.RowKit Go.Lib
set_option maxRecDepth 100000
section
variable (s : ByteArray) (w : World)
set_option maxHeartbeats 2000000 in
theorem next3 (hn : 3 ≤ s.size) (hs : s.size ≤ maxLen) (hc1 : 224 ≤ (s[0]'(by omega)).toNat) (hc2 : (s[0]'(by omega)).toNat < 240) : Calls Tryd.prog 39 #[.string s] w (nextPost s w) := by
  unfold maxLen at hs
  have h0 : 0 < s.size := by omega
  have h1 : 1 < s.size := by omega
  have h2 : 2 < s.size := by omega
  have u0 : s[0].toNat < 256 := UInt8.toNat_lt _
  have u1 : s[1].toNat < 256 := UInt8.toNat_lt _
  have u2 : s[2].toNat < 256 := UInt8.toNat_lt _
  have E : Hid (nextS s = if contN s[1].toNat ∧ contN s[2].toNat then finN 2048 (64 * (64 * (s[0].toNat - 224) + (s[1].toNat - 128)) + (s[2].toNat - 128)) 3 else (0, 0)) :=
    Lib.hid (by unfold nextS; rw [← bN_get s 0 h0, ← bN_get s 1 h1, ← bN_get s 2 h2]; exact nextOf_3 ⟨hc1, hc2⟩ hn u1 u2)
  have a0 : decide ((s[0].toNat : Int) < 128) = false := decide_eq_false (by omega)
  have a224 : decide ((s[0].toNat : Int) < 224) = false := decide_eq_false (by omega)
  have a240 : decide ((s[0].toNat : Int) < 240) = true := decide_eq_true (by omega)
  have az : decide ((s.size : Int) < 3) = false := decide_eq_false (by omega)
  go_enter Tryd.func39, Tryd.ntmps39
  go_wp2
  go_loop [6, 8] (fun p i => nextR3 (s[0].toNat : Int) (s[1].toNat : Int) (s[2].toNat : Int) p i) (fun _ i => 3 - (intOf i).toNat)
  case atStart => exact Or.inl ⟨rfl, rfl⟩
  case round =>
    unfold nextR3 at hrel
    rcases hrel with ⟨rfl, rfl⟩ | ⟨rfl, d1, e1, rfl⟩ | ⟨rfl, d1, e1, d2, e2, rfl⟩
    · by_cases k : contN s[1].toNat
      · obtain ⟨k1, k2⟩ := k
        go_wp2
        go_round
        case rel => unfold nextR3; exact Or.inr (Or.inl ⟨rfl, by omega, by omega, rfl⟩)
        case measure => simp [intOf]
      · have K : Hid (¬ (contN s[1].toNat ∧ contN s[2].toNat)) := Lib.hid (by intro h; exact k h.1)
        rcases (by unfold contN at k; omega : s[1].toNat < 128 ∨ 191 < s[1].toNat) with k1 | k1
        all_goals
          clear k
          go_wp2
          go_ret2
          exact ⟨ret_pair (E.out.trans (if_neg K.out)) rfl rfl, rfl⟩
    · by_cases k : contN s[2].toNat
      · obtain ⟨k1, k2⟩ := k
        go_wp2
        go_round
        case rel => unfold nextR3; exact Or.inr (Or.inr ⟨rfl, by omega, by omega, by omega, by omega, rfl⟩)
        case measure => simp [intOf]
      · have K : Hid (¬ (contN s[1].toNat ∧ contN s[2].toNat)) := Lib.hid (by intro h; exact k h.2)
        rcases (by unfold contN at k; omega : s[2].toNat < 128 ∨ 191 < s[2].toNat) with k1 | k1
        all_goals
          clear k
          go_wp2
          go_ret2
          exact ⟨ret_pair (E.out.trans (if_neg K.out)) rfl rfl, rfl⟩
    · have K : Hid (contN s[1].toNat ∧ contN s[2].toNat) := Lib.hid (by unfold contN; omega)
      rcases (by omega : (64 * (64 * (s[0].toNat - 224) + (s[1].toNat - 128)) + (s[2].toNat - 128)) < 2048 ∨ (55296 ≤ (64 * (64 * (s[0].toNat - 224) + (s[1].toNat - 128)) + (s[2].toNat - 128)) ∧ (64 * (64 * (s[0].toNat - 224) + (s[1].toNat - 128)) + (s[2].toNat - 128)) ≤ 57343) ∨ 1114111 < (64 * (64 * (s[0].toNat - 224) + (s[1].toNat - 128)) + (s[2].toNat - 128)) ∨ (¬ (64 * (64 * (s[0].toNat - 224) + (s[1].toNat - 128)) + (s[2].toNat - 128)) < 2048 ∧ (64 * (64 * (s[0].toNat - 224) + (s[1].toNat - 128)) + (s[2].toNat - 128)) < 55296) ∨ (¬ (64 * (64 * (s[0].toNat - 224) + (s[1].toNat - 128)) + (s[2].toNat - 128)) < 2048 ∧ 57343 < (64 * (64 * (s[0].toNat - 224) + (s[1].toNat - 128)) + (s[2].toNat - 128)) ∧ (64 * (64 * (s[0].toNat - 224) + (s[1].toNat - 128)) + (s[2].toNat - 128)) ≤ 1114111)) with k | k | k | k | k
      · have F : Hid (nextS s = (0, 0)) := Lib.hid ((E.out.trans (if_pos K.out)).trans (finN_bad (by omega)))
        have k' : (64 * (64 * ((s[0].toNat : Int) - 224) + (s[1].toNat : Int) - 128) + (s[2].toNat : Int) - 128) < 2048 := by omega
        clear k
        go_wp2
        all_goals (go_ret2; exact ⟨ret_pair F.out rfl rfl, rfl⟩)
      · have F : Hid (nextS s = (0, 0)) := Lib.hid ((E.out.trans (if_pos K.out)).trans (finN_bad (by omega)))
        have k' : 55296 ≤ (64 * (64 * ((s[0].toNat : Int) - 224) + (s[1].toNat : Int) - 128) + (s[2].toNat : Int) - 128) := by omega
        have k2 : (64 * (64 * ((s[0].toNat : Int) - 224) + (s[1].toNat : Int) - 128) + (s[2].toNat : Int) - 128) ≤ 57343 := by omega
        clear k
        go_wp2
        all_goals (go_ret2; exact ⟨ret_pair F.out rfl rfl, rfl⟩)
      · have F : Hid (nextS s = (0, 0)) := Lib.hid ((E.out.trans (if_pos K.out)).trans (finN_bad (by omega)))
        have k' : 1114111 < (64 * (64 * ((s[0].toNat : Int) - 224) + (s[1].toNat : Int) - 128) + (s[2].toNat : Int) - 128) := by omega
        clear k
        go_wp2
        all_goals (go_ret2; exact ⟨ret_pair F.out rfl rfl, rfl⟩)
      · have F : Hid (nextS s = ((64 * (64 * (s[0].toNat - 224) + (s[1].toNat - 128)) + (s[2].toNat - 128)), 3)) := Lib.hid ((E.out.trans (if_pos K.out)).trans (finN_ok (by omega)))
        have k' : ¬ (64 * (64 * ((s[0].toNat : Int) - 224) + (s[1].toNat : Int) - 128) + (s[2].toNat : Int) - 128) < 2048 := by omega
        have k2 : (64 * (64 * ((s[0].toNat : Int) - 224) + (s[1].toNat : Int) - 128) + (s[2].toNat : Int) - 128) < 55296 := by omega
        clear k
        go_wp2
        all_goals (go_ret2; refine ⟨ret_pair F.out ?_ rfl, rfl⟩; go_light; simp only; omega)
      · have F : Hid (nextS s = ((64 * (64 * (s[0].toNat - 224) + (s[1].toNat - 128)) + (s[2].toNat - 128)), 3)) := Lib.hid ((E.out.trans (if_pos K.out)).trans (finN_ok (by omega)))
        have k' : ¬ (64 * (64 * ((s[0].toNat : Int) - 224) + (s[1].toNat : Int) - 128) + (s[2].toNat : Int) - 128) < 2048 := by omega
        have k2 : 57343 < (64 * (64 * ((s[0].toNat : Int) - 224) + (s[1].toNat : Int) - 128) + (s[2].toNat : Int) - 128) := by omega
        have k3 : (64 * (64 * ((s[0].toNat : Int) - 224) + (s[1].toNat : Int) - 128) + (s[2].toNat : Int) - 128) ≤ 1114111 := by omega
        clear k
        go_wp2
        all_goals (go_ret2; refine ⟨ret_pair F.out ?_ rfl, rfl⟩; go_light; simp only; omega)

end
end Go.Proofs.YtklkodifbdpihaaDoor
