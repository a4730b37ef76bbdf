/- The lexer in general: names, numbers, signs, strings, remarks, tokens, all tokens. No condition beyond what the theorems state. -/
import Derived.Test.YtolkfhiominjbaaGreatDoorRefs
import Derived.Shelf.Unicode.DecodeLastEight
import Derived.Lib.RuneCount
import Derived.Laws.Cover4
namespace Go.Proofs.YtolkfhiominjbaaGreatDoor
open Go.RowKit Go.Lib
set_option maxRecDepth 100000
set_option maxHeartbeats 8000000
/-- Does a text begin with a letter? -/
def letterF (l : List UInt8) : Bool := nameX (l.take (Lib.decodeGo (ba' l)).2)
theorem begin_any (l : List UInt8) (hl : l.length ≤ 1000000) (w : World) (hE : Env w) : Calls Tryz.prog 67 #[.string (ba' l)] w fun e w' => e = .returned (.bool (letterF l)) ∧ Below w.heap.size w w' := by
  have hsz : (ba' l).size = l.length := size_ba l
  have hle := Lib.decodeGo_le_size (ba' l)
  have HD := Lib.hid (Tryz.utf8_DecodeRuneInString (ba' l) w hE.1)
  obtain ⟨n, hn⟩ : ∃ n, (Lib.decodeGo (ba' l)).2 = n := ⟨_, rfl⟩
  have HF : Hid (letterF l = nameX (l.take n)) := Lib.hid (by unfold letterF; rw [hn])
  rw [hn] at HD hle
  have HX : Hid ((ba' l).extract 0 n = ba' (l.take n)) := Lib.hid (cut_take l n)
  have HN : Hid (∀ W, Below w.heap.size w W → Calls Tryz.prog 78 #[.string (ba' (l.take n))] W fun e w' => e = .returned (.bool (nameX (l.take n))) ∧ Below W.heap.size W w') :=
    Lib.hid fun W hW => name_any (ba' (l.take n)) W (by rw [size_ba, List.length_take]; unfold maxLen; omega) (Utf8Tabs_below hE.1 hW)
  rw [← HF.out] at HN
  clear hn hE
  go_enter Tryz.func67, Tryz.ntmps67
  go_wp2_with fail
  refine HD.out.mono ?_
  rintro e w1 ⟨rfl, hb1⟩
  have HB1 := Lib.hid hb1
  clear hb1
  go_wp2_with fail
  rw [HX.out]
  refine (HN.out w1 HB1.out).mono ?_
  rintro e w2 ⟨rfl, hb2⟩
  have HB2 := Lib.hid (bt HB1.out hb2)
  clear hb2
  go_wp2
  go_ret
  exact ⟨rfl, HB2.out⟩
/-- Where the longest plain name ends that is looked through from some place on. -/
def plainGo (S : ByteArray) : Nat → Nat → Nat
  | 0, p => p
  | f + 1, p => if p < S.size then (if nameX (⟨#[95]⟩ ++ Utf8.encode ((Utf8.decode S p).1 : Int) : ByteArray).data.toList = true then plainGo S f (p + (Utf8.decode S p).2) else p) else S.size
/-- The longest name without a colon that a text begins with. -/
def plainF (l : List UInt8) : List UInt8 := if letterF l = true then l.take (plainGo (ba' l) (l.length + 1) 0) else []
theorem plain_any (l : List UInt8) (hl : l.length ≤ 1000000) (w : World) (hE : Env w) : Calls Tryz.prog 66 #[.string (ba' l)] w fun e w' => e = .returned (.string (ba' (plainF l))) ∧ Below w.heap.size w w' := by
  have HL := Lib.hid (begin_any l hl w hE)
  cases hlf : letterF l with
  | false =>
    have HF : Hid (plainF l = []) := Lib.hid (by unfold plainF; rw [hlf]; rfl)
    rw [hlf] at HL
    clear hlf hE
    go_enter Tryz.func66, Tryz.ntmps66
    go_wp2_with fail
    refine HL.out.mono ?_
    rintro e w1 ⟨rfl, hb1⟩
    have HB1 := Lib.hid hb1
    clear hb1
    go_wp2
    go_ret
    exact ⟨by rw [HF.out]; rfl, HB1.out⟩
  | true =>
    have HE := Lib.hid hE
    obtain ⟨P, hP⟩ : ∃ P, plainGo (ba' l) (l.length + 1) 0 = P := ⟨_, rfl⟩
    have HF : Hid (plainF l = l.take P) := Lib.hid (by unfold plainF; rw [hlf, hP]; rfl)
    have HP := Lib.hid hP
    have s1 : (ba' l).size = l.length := size_ba l
    rw [hlf] at HL
    clear hlf hE hP
    go_enter Tryz.func66, Tryz.ntmps66
    go_wp2_with fail
    refine HL.out.mono ?_
    rintro e w1 ⟨rfl, hb1⟩
    have HB1 := Lib.hid hb1
    clear hb1
    go_wp2
    go_loopg [3] (l.length + 1) (fun gf s3 wx => ∃ pos, l.length + 1 ≤ pos + gf ∧ Hid (plainGo (ba' l) gf pos = P) ∧ wx.heap[w1.heap.size]? = some (.stringIter (ba' l) pos) ∧ Hid (Below w.heap.size w wx))
    case atStart => exact ⟨0, by omega, HP, World.iter_heap w1 (ba' l) 0, Lib.hid (ba HB1.out)⟩
    case round =>
      obtain ⟨pos, hfu, HG, hit, HBW⟩ := hrel
      by_cases hlt : pos < l.length
      · obtain ⟨g', rfl⟩ : ∃ g', gk = g' + 1 := ⟨gk - 1, by omega⟩
        have hsp : pos < (ba' l).size := by omega
        have hwp := Lib.decode_width_pos (ba' l) pos hsp
        have hnx : ∀ ty, (Instr.next (.pointer (some ⟨w1.heap.size, 0, none⟩)) true ty).run Tryz.prog wr = _ := fun ty => Lib.run_next_any_at wr w1.heap.size (ba' l) pos ty hit hsp
        have hstep : plainGo (ba' l) (g' + 1) pos = if nameX (⟨#[95]⟩ ++ Utf8.encode ((Utf8.decode (ba' l) pos).1 : Int) : ByteArray).data.toList = true then plainGo (ba' l) g' (pos + (Utf8.decode (ba' l) pos).2) else pos := by
          conv => lhs; unfold plainGo
          rw [if_pos hsp]
        rw [HG.out] at hstep
        obtain ⟨r, n, hrn⟩ : ∃ r n, Utf8.decode (ba' l) pos = (r, n) := ⟨_, _, rfl⟩
        rw [hrn] at hnx hstep hwp
        simp only at hnx hstep hwp
        have hez : (Utf8.encode (r : Int)).size ≤ 4 := encode_size_le _
        have r1 : ¬ (9223372036854775807 < 1 + (Utf8.encode (r : Int)).size) := by omega
        obtain ⟨W, hWd⟩ : ∃ W, wr.iterAt w1.heap.size (ba' l) (pos + n) = W := ⟨_, rfl⟩
        rw [hWd] at hnx
        have hWb : Below w.heap.size w W := by rw [← hWd]; exact Lib.below_iterAt HBW.out HB1.out.size _ _
        have hWi : W.heap[w1.heap.size]? = some (.stringIter (ba' l) (pos + n)) := by rw [← hWd]; exact Lib.iterAt_heap wr _ _ pos _ hit
        have hWz : w1.heap.size < W.heap.size := (Array.getElem?_eq_some_iff.1 hWi).1
        have HWB := Lib.hid hWb
        have HWI := Lib.hid hWi
        have hNC := name_any (⟨#[95]⟩ ++ Utf8.encode (r : Int)) W (by rw [ByteArray.size_append]; unfold maxLen; show 1 + _ ≤ _; omega) (Utf8Tabs_below HE.out.1 hWb)
        have HEX : Hid ((ba' l).extract 0 pos = ba' (l.take pos)) := Lib.hid (cut_take l pos)
        cases hnm : nameX (⟨#[95]⟩ ++ Utf8.encode (r : Int) : ByteArray).data.toList with
        | true =>
          rw [hnm] at hNC hstep
          have HST : Hid (plainGo (ba' l) g' (pos + n) = P) := Lib.hid (by rw [hstep]; rfl)
          have HNC := Lib.hid hNC
          clear hWb hWi hWd hit hstep hNC hnm hrn
          go_wp2_with fail
          refine HNC.out.mono ?_
          rintro e w2 ⟨rfl, hb2⟩
          have HI2 : Hid (w2.heap[w1.heap.size]? = some (.stringIter (ba' l) (pos + n))) := Lib.hid ((hb2.block _ hWz).trans HWI.out)
          have HB2 := Lib.hid (bt HWB.out hb2)
          clear hb2 hWz
          go_wp2
          go_roundg g'
          case measure => omega
          case rel => exact ⟨pos + n, by omega, HST, HI2.out, HB2⟩
        | false =>
          rw [hnm] at hNC hstep
          have HST : Hid (P = pos) := Lib.hid (by rw [hstep]; rfl)
          have HNC := Lib.hid hNC
          clear hWb hWi hWd hit hstep hNC hnm hrn
          go_wp2_with fail
          refine HNC.out.mono ?_
          rintro e w2 ⟨rfl, hb2⟩
          have HB2 := Lib.hid (bt HWB.out hb2)
          clear hb2 hWz
          go_wp2
          rw [HEX.out]
          go_ret
          exact ⟨by rw [HF.out, HST.out]; rfl, HB2.out⟩
      · have hnx : ∀ ty, (Instr.next (.pointer (some ⟨w1.heap.size, 0, none⟩)) true ty).run Tryz.prog wr = _ := fun ty => Lib.run_next_end_at wr w1.heap.size (ba' l) pos ty hit (by omega)
        have HST : Hid (l.take P = l) := Lib.hid (by
          have h := HG.out
          rcases gk with _ | g'
          · simp only [plainGo] at h
            rw [← h]
            exact List.take_of_length_le (by omega)
          · unfold plainGo at h
            rw [if_neg (by omega)] at h
            rw [← h]
            exact List.take_of_length_le (by omega))
        clear hit HG
        go_wp2
        go_ret
        exact ⟨by rw [HF.out, HST.out]; rfl, HBW.out⟩
end Go.Proofs.YtolkfhiominjbaaGreatDoor
namespace Go.Proofs.YtolkfhiominjbaaGreatDoor
open Go.RowKit Go.Lib
set_option maxRecDepth 100000
set_option maxHeartbeats 8000000
theorem plainF_len (l : List UInt8) : (plainF l).length ≤ l.length := by
  unfold plainF
  split
  · rw [List.length_take]; omega
  · simp
/-- A name, and a colon and a name behind it. -/
def qualF (l : List UInt8) : List UInt8 := if plainF l = [] then [] else
  match l.drop (plainF l).length with
  | [] => plainF l
  | c :: t => if c = 58 ∧ letterF t = true then plainF l ++ 58 :: plainF t else plainF l
theorem qual_any (l : List UInt8) (hl : l.length ≤ 1000000) (w : World) (hE : Env w) : Calls Tryz.prog 50 #[.string (ba' l)] w fun e w' => e = .returned (.string (ba' (qualF l))) ∧ Below w.heap.size w w' := by
  have HP := Lib.hid (plain_any l hl w hE)
  have HPA : Hid (∀ (x : List UInt8) (W : World), x.length ≤ 1000000 → Below w.heap.size w W → Calls Tryz.prog 66 #[.string (ba' x)] W fun e w' => e = .returned (.string (ba' (plainF x))) ∧ Below W.heap.size W w') := Lib.hid fun x W hx hW => plain_any x hx W (hE.below hW)
  have HLA : Hid (∀ (x : List UInt8) (W : World), x.length ≤ 1000000 → Below w.heap.size w W → Calls Tryz.prog 67 #[.string (ba' x)] W fun e w' => e = .returned (.bool (letterF x)) ∧ Below W.heap.size W w') := Lib.hid fun x W hx hW => begin_any x hx W (hE.below hW)
  have hpl := plainF_len l
  obtain ⟨p, hp⟩ : ∃ p, plainF l = p := ⟨_, rfl⟩
  have hF : qualF l = if p = [] then [] else match l.drop p.length with
    | [] => p
    | c :: t => if c = 58 ∧ letterF t = true then p ++ 58 :: plainF t else p := by unfold qualF; rw [hp]
  rw [hp] at HP hpl
  have s1 : (ba' p).size = p.length := size_ba p
  have s2 : (ba' l).size = l.length := size_ba l
  clear hE hp
  by_cases hp0 : p = []
  · subst hp0
    have HF : Hid (qualF l = []) := Lib.hid (by rw [hF]; rfl)
    have g0 : (ba' []).toList.isEmpty = true := by rw [toList_ba]; rfl
    clear hF
    go_enter Tryz.func50, Tryz.ntmps50
    go_wp2_with fail
    refine HP.out.mono ?_
    rintro e w1 ⟨rfl, hb1⟩
    have HB1 := Lib.hid hb1
    clear hb1
    go_wp2
    go_ret
    exact ⟨by rw [HF.out]; rfl, HB1.out⟩
  · rw [if_neg hp0] at hF
    have g0 : (ba' p).toList.isEmpty = false := by rw [toList_ba]; cases p with | nil => exact absurd rfl hp0 | cons => rfl
    obtain ⟨X, hX⟩ : ∃ X, l.drop p.length = X := ⟨_, rfl⟩
    have hXl : X.length ≤ 1000000 := by rw [← hX, List.length_drop]; omega
    have HEX : Hid ((ba' l).extract p.length l.length = ba' X) := Lib.hid (by rw [← s2, cut_drop, hX])
    rw [hX] at hF
    clear hX hp0
    rcases X with _ | ⟨c, t⟩
    · have HF : Hid (qualF l = p) := Lib.hid hF
      have e1 := pre_nil 58
      have t1 := trim_no 58 [] e1
      clear hF
      go_enter Tryz.func50, Tryz.ntmps50
      go_wp2_with fail
      refine HP.out.mono ?_
      rintro e w1 ⟨rfl, hb1⟩
      have HB1 := Lib.hid hb1
      clear hb1
      go_wp2_with fail
      rw [HEX.out]
      refine (Tryz.strings_CutPrefix (ba' []) ⟨#[58]⟩ w1).mono ?_
      rintro e w2 ⟨rfl, rfl⟩
      rw [e1, t1]
      go_wp2
      go_ret
      exact ⟨by rw [HF.out]; rfl, HB1.out⟩
    · by_cases hc : c = 58
      · subst hc
        have e1 := pre_yes 58 t
        have t1 := trim_yes 58 t
        have htl : t.length ≤ 1000000 := by simp only [List.length_cons] at hXl; omega
        cases hlf : letterF t with
        | false =>
          have HF : Hid (qualF l = p) := Lib.hid (by rw [hF]; simp [hlf])
          have HL : Hid (∀ W, Below w.heap.size w W → _) := Lib.hid fun W hW => HLA.out t W htl hW
          rw [hlf] at HL
          clear hF hlf
          go_enter Tryz.func50, Tryz.ntmps50
          go_wp2_with fail
          refine HP.out.mono ?_
          rintro e w1 ⟨rfl, hb1⟩
          have HB1 := Lib.hid hb1
          clear hb1
          go_wp2_with fail
          rw [HEX.out]
          refine (Tryz.strings_CutPrefix (ba' (58 :: t)) ⟨#[58]⟩ w1).mono ?_
          rintro e w2 ⟨rfl, rfl⟩
          rw [e1, t1]
          go_wp2_with fail
          refine (HL.out w2 HB1.out).mono ?_
          rintro e w3 ⟨rfl, hb3⟩
          have HB3 := Lib.hid (bt HB1.out hb3)
          clear hb3
          go_wp2
          go_ret
          exact ⟨by rw [HF.out]; rfl, HB3.out⟩
        | true =>
          have HF : Hid (qualF l = p ++ 58 :: plainF t) := Lib.hid (by rw [hF]; simp [hlf])
          have HL : Hid (∀ W, Below w.heap.size w W → _) := Lib.hid fun W hW => HLA.out t W htl hW
          have hpt := plainF_len t
          have s3 : (ba' (plainF t)).size = (plainF t).length := size_ba _
          have r1 : ¬ (9223372036854775807 < (ba' p).size + 1) := by omega
          have HAP : Hid ((ba' p ++ ⟨#[58]⟩) ++ ba' (plainF t) = ba' (p ++ 58 :: plainF t)) := Lib.hid (by
            show (ba' p ++ ba' [58]) ++ ba' (plainF t) = _
            rw [ba_app, ba_app, List.append_assoc]
            rfl)
          have r2 : ¬ (9223372036854775807 < (ba' p).size + 1 + (ba' (plainF t)).size) := by omega
          rw [hlf] at HL
          clear hF hlf
          go_enter Tryz.func50, Tryz.ntmps50
          go_wp2_with fail
          refine HP.out.mono ?_
          rintro e w1 ⟨rfl, hb1⟩
          have HB1 := Lib.hid hb1
          clear hb1
          go_wp2_with fail
          rw [HEX.out]
          refine (Tryz.strings_CutPrefix (ba' (58 :: t)) ⟨#[58]⟩ w1).mono ?_
          rintro e w2 ⟨rfl, rfl⟩
          rw [e1, t1]
          go_wp2_with fail
          refine (HL.out w2 HB1.out).mono ?_
          rintro e w3 ⟨rfl, hb3⟩
          have HB3 := Lib.hid (bt HB1.out hb3)
          clear hb3
          go_wp2_with fail
          refine (HPA.out t w3 htl HB3.out).mono ?_
          rintro e w4 ⟨rfl, hb4⟩
          have HB4 := Lib.hid (bt HB3.out hb4)
          clear hb4
          go_wp2
          rw [HAP.out]
          go_ret
          exact ⟨by rw [HF.out]; rfl, HB4.out⟩
      · have HF : Hid (qualF l = p) := Lib.hid (by rw [hF]; simp [hc])
        have e1 := pre_no 58 c t hc
        have t1 := trim_no 58 (c :: t) e1
        clear hF
        go_enter Tryz.func50, Tryz.ntmps50
        go_wp2_with fail
        refine HP.out.mono ?_
        rintro e w1 ⟨rfl, hb1⟩
        have HB1 := Lib.hid hb1
        clear hb1
        go_wp2_with fail
        rw [HEX.out]
        refine (Tryz.strings_CutPrefix (ba' (c :: t)) ⟨#[58]⟩ w1).mono ?_
        rintro e w2 ⟨rfl, rfl⟩
        rw [e1, t1]
        go_wp2
        go_ret
        exact ⟨by rw [HF.out]; rfl, HB1.out⟩
/-- A kind, a text and a size, as a function answers them. -/
def TPost (r : Nat × List UInt8 × Nat) (e : Ending) : Prop := e = .returned (.tuple #[.int .i64 (r.1 : Int), .string (ba' r.2.1), .int .i64 (r.2.2 : Int)])
def varF (t : List UInt8) : Nat × List UInt8 × Nat := if plainF t = [] then (0, [], 0) else (2, plainF t, (plainF t).length + 1)
theorem var_any (t : List UInt8) (hl : t.length ≤ 69999) (w : World) (hE : Env w) : Calls Tryz.prog 45 #[.string (ba' (36 :: t))] w fun e w' => TPost (varF t) e ∧ Below w.heap.size w w' := by
  have HP := Lib.hid (plain_any t (by omega) w hE)
  have hpl := plainF_len t
  by_cases hp : plainF t = []
  · have HF : Hid (varF t = (0, [], 0)) := Lib.hid (by unfold varF; rw [if_pos hp])
    rw [hp] at HP
    have e2 : Hid ((ba' (36 :: t)).extract 1 (ba' (36 :: t)).size = ba' t) := Lib.hid (cut_drop (36 :: t) 1)
    have hsz := sz_cons 36 t
    have hz1 : ¬ ((ba' (36 :: t)).size < 1) := by omega
    have g0 : (ba' []).toList.isEmpty = true := by rw [toList_ba]; rfl
    clear hE hp
    go_enter Tryz.func45, Tryz.ntmps45
    go_wp2_with fail
    rw [e2.out]
    refine HP.out.mono ?_
    rintro e w1 ⟨rfl, hb1⟩
    have HB1 := Lib.hid hb1
    clear hb1
    go_wp2
    go_ret3
    exact ⟨by rw [HF.out]; rfl, HB1.out⟩
  · refine (variable_any (plainF t) t hp (by omega) (by omega) w HP).mono ?_
    rintro e w1 ⟨rfl, hb⟩
    refine ⟨?_, hb⟩
    unfold varF
    rw [if_neg hp]
    rfl
theorem readF_left (q : UInt8) : ∀ (f : Nat) (l acc m t : List UInt8), readF q f l acc = some (m, t) → t.length ≤ l.length
  | 0, _, _, _, _, h => by cases h
  | f + 1, [], acc, m, t, h => by cases h; exact Nat.le_refl _
  | f + 1, a :: X, acc, m, t, h => by
    unfold readF at h
    split at h
    · cases hc : cutF X with
      | none => rw [hc] at h; cases h
      | some p =>
        obtain ⟨m', rest⟩ := p
        rw [hc] at h
        have h1 := (cutF_len hc).1
        have h2 := readF_left q f rest _ m t h
        simp only [List.length_cons]
        omega
    · split at h
      · rcases X with _ | ⟨b, X'⟩
        · cases h; exact Nat.le_refl _
        · simp only at h
          split at h
          · have h2 := readF_left q f X' _ m t h
            simp only [List.length_cons]
            omega
          · cases h; exact Nat.le_refl _
      · have h2 := readF_left q f X _ m t h
        simp only [List.length_cons]
        omega
def quoF (q : UInt8) (t : List UInt8) : Nat × List UInt8 × Nat := match readF q (t.length + 1) t [] with
  | none => (0, [], 0)
  | some (m, left) => if left = [] then (0, [], 0) else (5, m, t.length - left.length + 2)
theorem quo_any (q : UInt8) (hq : q = 34 ∨ q = 39) (t : List UInt8) (hl : t.length ≤ 69999) (w : World) (hE : Env w) : Calls Tryz.prog 46 #[.string (ba' (q :: t))] w fun e w' => TPost (quoF q t) e ∧ Below w.heap.size w w' := by
  have HEX : Hid ((ba' (q :: t)).extract 1 (t.length + 1) = ba' t) := Lib.hid (by have h := cut_drop (q :: t) 1; rw [size_ba] at h; exact h)
  have HE1 : Hid ((ba' (q :: t)).extract 0 1 = ba' [q]) := Lib.hid (cut_take (q :: t) 1)
  have s1 : (ba' (q :: t)).size = t.length + 1 := by rw [size_ba]; rfl
  have s2 : (ba' [q]).size = 1 := rfl
  have hz1 : ¬ ((ba' (q :: t)).size < 1) := by omega
  cases hr : readF q (t.length + 1) t [] with
  | none =>
    have HR := Lib.hid (readF_any q hq t (by omega) w hE none hr)
    have HF : Hid (quoF q t = (0, [], 0)) := Lib.hid (by unfold quoF; rw [hr])
    clear hE hr
    go_enter Tryz.func46, Tryz.ntmps46
    go_wp2_with fail
    rw [HEX.out, HE1.out]
    refine HR.out.mono ?_
    rintro e w1 ⟨he, hb1⟩
    obtain rfl : e = _ := he
    have HB1 := Lib.hid hb1
    clear hb1
    go_wp2
    go_ret3
    exact ⟨by rw [HF.out]; rfl, HB1.out⟩
  | some p =>
    obtain ⟨m, left⟩ := p
    have HR := Lib.hid (readF_any q hq t (by omega) w hE _ hr)
    have hll := readF_left q _ _ _ _ _ hr
    by_cases h0 : left = []
    · subst h0
      have HF : Hid (quoF q t = (0, [], 0)) := Lib.hid (by unfold quoF; rw [hr]; rfl)
      have g0 : (ba' []).toList.isEmpty = true := by rw [toList_ba]; rfl
      clear hE hr
      go_enter Tryz.func46, Tryz.ntmps46
      go_wp2_with fail
      rw [HEX.out, HE1.out]
      refine HR.out.mono ?_
      rintro e w1 ⟨he, hb1⟩
      obtain rfl : e = _ := he
      have HB1 := Lib.hid hb1
      clear hb1
      go_wp2
      go_ret3
      exact ⟨by rw [HF.out]; rfl, HB1.out⟩
    · have HF : Hid (quoF q t = (5, m, t.length - left.length + 2)) := Lib.hid (by unfold quoF; rw [hr]; simp [h0])
      have g0 : (ba' left).toList.isEmpty = false := by rw [toList_ba]; cases left with | nil => exact absurd rfl h0 | cons => rfl
      have s3 : (ba' left).size = left.length := size_ba _
      clear hE hr
      go_enter Tryz.func46, Tryz.ntmps46
      go_wp2_with fail
      rw [HEX.out, HE1.out]
      refine HR.out.mono ?_
      rintro e w1 ⟨he, hb1⟩
      obtain rfl : e = _ := he
      have HB1 := Lib.hid hb1
      clear hb1
      go_wp2
      go_ret3
      refine ⟨?_, HB1.out⟩
      rw [HF.out]
      unfold TPost
      simp only
      rw [show ((t.length - left.length + 2 : Nat) : Int) = (t.length : Int) + 1 - (left.length : Int) + 1 by omega]
      rfl
end Go.Proofs.YtolkfhiominjbaaGreatDoor
namespace Go.Proofs.YtolkfhiominjbaaGreatDoor
open Go.RowKit Go.Lib
set_option maxRecDepth 100000
set_option maxHeartbeats 8000000
theorem trim_le (l : List UInt8) : (Lib.trimLeftS l tens).length ≤ l.length := by
  unfold Lib.trimLeftS
  exact (List.dropWhile_sublist _).length_le
/-- How many digits a text begins with. -/
def digF (l : List UInt8) : Nat := l.length - (Lib.trimLeftS l tens).length
theorem digF_le (l : List UInt8) : digF l ≤ l.length := Nat.sub_le _ _
theorem dig_any (l : List UInt8) (hl : l.length ≤ 70000) (w : World) : Calls Tryz.prog 47 #[.string (ba' l)] w fun e w' => e = .returned (.int .i64 (digF l : Nat)) ∧ Below w.heap.size w w' := by
  have h := digits_any l _ rfl hl (by have := trim_le l; omega) w
  have e : ((digF l : Nat) : Int) = (l.length : Int) - ((Lib.trimLeftS l tens).length : Int) := by
    have := trim_le l
    unfold digF
    omega
  rw [e]
  exact h
/-- What a number is, and where it ends. -/
def numH (d : Nat) : List UInt8 → Nat × Nat
  | [] => (3, d)
  | c :: t => if c = 46 then (4, d + 1 + digF t) else (3, d)
def numK (l : List UInt8) : Nat × Nat := numH (digF l) (l.drop (digF l))
def numT (l : List UInt8) : Nat × List UInt8 × Nat := if letterF (l.drop (numK l).2) = true then (0, [], 0) else ((numK l).1, l.take (numK l).2, (numK l).2)
theorem numT_any (l : List UInt8) (hl : l.length ≤ 70000) (w : World) (hE : Env w) : Calls Tryz.prog 48 #[.string (ba' l)] w fun e w' => TPost (numT l) e ∧ Below w.heap.size w w' := by
  have HD := Lib.hid (dig_any l hl w)
  have hdl := digF_le l
  have s1 : (ba' l).size = l.length := size_ba l
  obtain ⟨d, hd⟩ : ∃ d, digF l = d := ⟨_, rfl⟩
  rw [hd] at HD hdl
  obtain ⟨X, hX⟩ : ∃ X, l.drop d = X := ⟨_, rfl⟩
  have HX : Hid ((ba' l).extract d l.length = ba' X) := Lib.hid (by have h := cut_drop l d; rw [size_ba, hX] at h; exact h)
  have hK : numK l = numH d X := by unfold numK; rw [hd, hX]
  by_cases hdot : ∃ t, X = 46 :: t
  · obtain ⟨t, rfl⟩ := hdot
    have hK' : numK l = (4, d + 1 + digF t) := hK
    have htl : t = l.drop (d + 1) := by rw [← List.drop_drop, hX]; rfl
    have hd1 : d + 1 ≤ l.length := by
      have := congrArg List.length hX
      simp at this
      omega
    have htll : t.length = l.length - (d + 1) := by rw [htl, List.length_drop]
    have HD2 : Hid (∀ W : World, Calls Tryz.prog 47 #[.string (ba' t)] W fun e w' => e = .returned (.int .i64 (digF t : Nat)) ∧ Below W.heap.size W w') := Lib.hid fun W => dig_any t (by omega) W
    have hel := digF_le t
    obtain ⟨k, hk⟩ : ∃ k, digF t = k := ⟨_, rfl⟩
    rw [hk] at HD2 hel hK'
    have HX1 : Hid ((ba' l).extract (d + 1) l.length = ba' t) := Lib.hid (by have h := cut_drop l (d + 1); rw [size_ba, ← htl] at h; exact h)
    have hnl : d + 1 + k ≤ l.length := by omega
    have HX2 : Hid ((ba' l).extract (d + 1 + k) l.length = ba' (l.drop (d + 1 + k))) := Lib.hid (by have h := cut_drop l (d + 1 + k); rw [size_ba] at h; exact h)
    have HL : Hid (∀ W : World, Below w.heap.size w W → Calls Tryz.prog 67 #[.string (ba' (l.drop (d + 1 + k)))] W fun e w' => e = .returned (.bool (letterF (l.drop (d + 1 + k)))) ∧ Below W.heap.size W w') :=
      Lib.hid fun W hW => begin_any _ (by rw [List.length_drop]; omega) W (hE.below hW)
    have hF : numT l = if letterF (l.drop (d + 1 + k)) = true then (0, [], 0) else (4, l.take (d + 1 + k), d + 1 + k) := by unfold numT; rw [hK']
    have e1 := pre_yes 46 t
    have HX4 : Hid ((ba' l).extract 0 (d + 1 + k) = ba' (l.take (d + 1 + k))) := Lib.hid (cut_take l (d + 1 + k))
    have g1 : ¬ ((l.length : Int) < (d : Int) + 1) := by omega
    have g2 : ¬ (l.length < d + 1) := by omega
    have g3 : ¬ (l.length < d) := by omega
    obtain ⟨b, hb⟩ : ∃ b, letterF (l.drop (d + 1 + k)) = b := ⟨_, rfl⟩
    rw [hb] at HL hF
    clear hE hd hX hK hK' htl hk hb
    cases b with
    | true =>
      have HF : Hid (numT l = (0, [], 0)) := Lib.hid hF
      clear hF
      go_enter Tryz.func48, Tryz.ntmps48
      go_wp2_with fail
      refine HD.out.mono ?_
      rintro e w1 ⟨rfl, hb1⟩
      have HB1 := Lib.hid hb1
      clear hb1
      go_wp2_with fail
      rw [HX.out]
      refine (Tryz.strings_HasPrefix (ba' (46 :: t)) ⟨#[46]⟩ w1).mono ?_
      rintro e w2 ⟨rfl, rfl⟩
      rw [e1]
      go_wp2_with fail
      rw [HX1.out]
      refine (HD2.out _).mono ?_
      rintro e w3 ⟨rfl, hb3⟩
      have HB3 := Lib.hid (bt HB1.out hb3)
      clear hb3
      go_wp2_with fail
      rw [HX2.out]
      refine (HL.out w3 HB3.out).mono ?_
      rintro e w4 ⟨rfl, hb4⟩
      have HB4 := Lib.hid (bt HB3.out hb4)
      clear hb4
      go_wp2
      go_ret3
      exact ⟨by rw [HF.out]; rfl, HB4.out⟩
    | false =>
      have HF : Hid (numT l = (4, l.take (d + 1 + k), d + 1 + k)) := Lib.hid hF
      clear hF
      go_enter Tryz.func48, Tryz.ntmps48
      go_wp2_with fail
      refine HD.out.mono ?_
      rintro e w1 ⟨rfl, hb1⟩
      have HB1 := Lib.hid hb1
      clear hb1
      go_wp2_with fail
      rw [HX.out]
      refine (Tryz.strings_HasPrefix (ba' (46 :: t)) ⟨#[46]⟩ w1).mono ?_
      rintro e w2 ⟨rfl, rfl⟩
      rw [e1]
      go_wp2_with fail
      rw [HX1.out]
      refine (HD2.out _).mono ?_
      rintro e w3 ⟨rfl, hb3⟩
      have HB3 := Lib.hid (bt HB1.out hb3)
      clear hb3
      go_wp2_with fail
      rw [HX2.out]
      refine (HL.out w3 HB3.out).mono ?_
      rintro e w4 ⟨rfl, hb4⟩
      have HB4 := Lib.hid (bt HB3.out hb4)
      clear hb4
      obtain ⟨n, hn⟩ : ∃ n, d + 1 + k = n := ⟨_, rfl⟩
      have hni : (d : Int) + 1 + (k : Int) = (n : Int) := by omega
      rw [hn] at HF HX4 hnl
      clear hn HX2
      go_upto_region 7 with fail
      go_cut [2, 3, 4] (fun s2 s3 s4 wx => s2 = .int .i64 4 ∧ s3 = .string (ba' (l.take n)) ∧ s4 = .int .i64 (n : Nat) ∧ Below w.heap.size w wx)
      case first =>
        rename_i J K' hJ hK'
        refine numR_region 4 n (ba' l) (ba' (l.take n)) _ _ _ _ _ _ _ _ _ _ _ _ _ _ _ _ _ _ _ _ _ _ _ _ _ w w4 _ HB4.out (by rw [s1]; exact hnl) HX4.out ?_
        intro w' _ hb
        refine hK' _ _ (Met.intro (hJ _ _ ?_))
        (repeat apply Exists.intro)
        refine ⟨?_, rfl⟩
        exact ⟨rfl, rfl, rfl, hb⟩
      case rest =>
        obtain ⟨rfl, rfl, rfl, hbc⟩ := hcut
        go_wp2
        go_ret3
        exact ⟨by rw [HF.out]; rfl, hbc⟩
  · have hK' : numK l = (3, d) := by
      rw [hK]
      rcases X with _ | ⟨c, t⟩
      · rfl
      · by_cases hc : c = 46
        · exact absurd ⟨t, by rw [hc]⟩ hdot
        · simp [numH, hc]
    have e1 : Lib.hasPrefix (ba' X).data.toList (⟨#[46]⟩ : ByteArray).data.toList = false := by
      rcases X with _ | ⟨c, t⟩
      · rfl
      · exact pre_no 46 c t fun hc => hdot ⟨t, by rw [hc]⟩
    have HL : Hid (∀ W : World, Below w.heap.size w W → Calls Tryz.prog 67 #[.string (ba' X)] W fun e w' => e = .returned (.bool (letterF X)) ∧ Below W.heap.size W w') :=
      Lib.hid fun W hW => begin_any _ (by rw [← hX, List.length_drop]; omega) W (hE.below hW)
    have hF : numT l = if letterF X = true then (0, [], 0) else (3, l.take d, d) := by unfold numT; rw [hK']; simp only; rw [hX]
    have HX4 : Hid ((ba' l).extract 0 d = ba' (l.take d)) := Lib.hid (cut_take l d)
    have g3 : ¬ (l.length < d) := by omega
    obtain ⟨b, hb⟩ : ∃ b, letterF X = b := ⟨_, rfl⟩
    rw [hb] at HL hF
    clear hE hd hX hK hK' hb hdot
    cases b with
    | true =>
      have HF : Hid (numT l = (0, [], 0)) := Lib.hid hF
      clear hF
      go_enter Tryz.func48, Tryz.ntmps48
      go_wp2_with fail
      refine HD.out.mono ?_
      rintro e w1 ⟨rfl, hb1⟩
      have HB1 := Lib.hid hb1
      clear hb1
      go_wp2_with fail
      rw [HX.out]
      refine (Tryz.strings_HasPrefix (ba' X) ⟨#[46]⟩ w1).mono ?_
      rintro e w2 ⟨rfl, rfl⟩
      rw [e1]
      go_wp2_with fail
      rw [HX.out]
      refine (HL.out w2 HB1.out).mono ?_
      rintro e w4 ⟨rfl, hb4⟩
      have HB4 := Lib.hid (bt HB1.out hb4)
      clear hb4
      go_wp2
      go_ret3
      exact ⟨by rw [HF.out]; rfl, HB4.out⟩
    | false =>
      have HF : Hid (numT l = (3, l.take d, d)) := Lib.hid hF
      clear hF
      go_enter Tryz.func48, Tryz.ntmps48
      go_wp2_with fail
      refine HD.out.mono ?_
      rintro e w1 ⟨rfl, hb1⟩
      have HB1 := Lib.hid hb1
      clear hb1
      go_wp2_with fail
      rw [HX.out]
      refine (Tryz.strings_HasPrefix (ba' X) ⟨#[46]⟩ w1).mono ?_
      rintro e w2 ⟨rfl, rfl⟩
      rw [e1]
      go_wp2_with fail
      rw [HX.out]
      refine (HL.out w2 HB1.out).mono ?_
      rintro e w4 ⟨rfl, hb4⟩
      have HB4 := Lib.hid (bt HB1.out hb4)
      clear hb4
      go_upto_region 7 with fail
      go_cut [2, 3, 4] (fun s2 s3 s4 wx => s2 = .int .i64 3 ∧ s3 = .string (ba' (l.take d)) ∧ s4 = .int .i64 (d : Nat) ∧ Below w.heap.size w wx)
      case first =>
        rename_i J K' hJ hK'
        refine numR_region 3 d (ba' l) (ba' (l.take d)) _ _ _ _ _ _ _ _ _ _ _ _ _ _ _ _ _ _ _ _ _ _ _ _ _ w w4 _ HB4.out (by rw [s1]; exact hdl) HX4.out ?_
        intro w' _ hb
        refine hK' _ _ (Met.intro (hJ _ _ ?_))
        (repeat apply Exists.intro)
        refine ⟨?_, rfl⟩
        exact ⟨rfl, rfl, rfl, hb⟩
      case rest =>
        obtain ⟨rfl, rfl, rfl, hbc⟩ := hcut
        go_wp2
        go_ret3
        exact ⟨by rw [HF.out]; rfl, hbc⟩
end Go.Proofs.YtolkfhiominjbaaGreatDoor
namespace Go.Proofs.YtolkfhiominjbaaGreatDoor
open Go.RowKit Go.Lib
set_option maxRecDepth 100000
set_option maxHeartbeats 8000000
def onesL : List UInt8 := [40, 41, 91, 93, 123, 125, 44, 59, 46, 47, 64, 42, 43, 45, 61, 60, 62, 124, 63]
def twosL : List (List UInt8) := [[58, 61], [58, 58], [46, 46], [47, 47], [33, 61], [60, 61], [60, 60], [62, 61], [62, 62]]
def oneF (c : UInt8) : List UInt8 := if onesL.contains c = true then [c] else []
/-- The longest sign that a text begins with. -/
def signF : List UInt8 → List UInt8
  | [] => []
  | c :: t => match t with
    | [] => oneF c
    | d :: _ => if twosL.contains [c, d] = true then [c, d] else oneF c
theorem one_index (c : UInt8) (w : World) : Calls Tryz.prog 57 #[.string ⟨#[40, 41, 91, 93, 123, 125, 44, 59, 46, 47, 64, 42, 43, 45, 61, 60, 62, 124, 63]⟩, .int .u8 (c.toNat : Int)] w fun e w' => (∃ r : Int, e = .returned (.int .i64 r) ∧ decide (r < 0) = !onesL.contains c) ∧ w' = w := by
  refine (Tryz.strings_IndexByte ⟨#[40, 41, 91, 93, 123, 125, 44, 59, 46, 47, 64, 42, 43, 45, 61, 60, 62, 124, 63]⟩ (c.toNat : Int) w).mono ?_
  rintro e w1 ⟨rfl, rfl⟩
  refine ⟨⟨_, rfl, ?_⟩, rfl⟩
  have hi : Lib.indexByte (⟨#[40, 41, 91, 93, 123, 125, 44, 59, 46, 47, 64, 42, 43, 45, 61, 60, 62, 124, 63]⟩ : ByteArray).data.toList ((c.toNat : Int)).toNat.toUInt8 = Lib.indexByte onesL c := by
    show Lib.indexByte onesL _ = _
    congr 1
    rw [Int.toNat_natCast]
    exact UInt8.toNat_inj.1 (u8N _ (UInt8.toNat_lt c))
  rw [hi, ← indexByte_has]
  by_cases h : 0 ≤ Lib.indexByte onesL c
  · simp [h]
  · simp [h]; omega
theorem sign_any (l : List UInt8) (hne : l ≠ []) (hl : l.length ≤ 1000000) (w : World) : Calls Tryz.prog 49 #[.string (ba' l)] w fun e w' => e = .returned (.string (ba' (signF l))) ∧ Below w.heap.size w w' := by
  rcases l with _ | ⟨c, t⟩
  · exact absurd rfl hne
  clear hne
  have hsz := sz_cons c t
  have HEX : Hid ((ba' (c :: t)).extract 0 1 = ba' [c]) := Lib.hid (cut_take (c :: t) 1)
  have r1 : ¬ ((ba' (c :: t)).size < 1) := by omega
  rcases t with _ | ⟨d, t⟩
  · have s1 : (ba' [c]).size = 1 := size_ba _
    have hat := at_cons c [] hsz
    go_enter Tryz.func49, Tryz.ntmps49
    go_wp2_with fail
    refine (one_index c w).mono ?_
    rintro e w1 ⟨⟨r, rfl, hr⟩, rfl⟩
    cases hcn : onesL.contains c with
    | true =>
      have HF : Hid (signF ([c]) = [c]) := Lib.hid (by unfold signF; simp only; unfold oneF; rw [if_pos hcn])
      rw [hcn] at hr
      have hr1 : decide (r < 0) = false := hr
      clear hcn hr
      go_wp2
      rw [HEX.out]
      go_ret
      exact ⟨by rw [HF.out]; rfl, Below.refl _ _⟩
    | false =>
      have HF : Hid (signF ([c]) = []) := Lib.hid (by unfold signF; simp only; unfold oneF; rw [if_neg (by rw [hcn]; decide)])
      rw [hcn] at hr
      have hr1 : decide (r < 0) = true := hr
      clear hcn hr
      go_wp2
      go_ret
      exact ⟨by rw [HF.out]; rfl, Below.refl _ _⟩
  · have s1 : (ba' (c :: d :: t)).size = t.length + 2 := by rw [size_ba]; rfl
    have hat := at_cons c (d :: t) hsz
    have gx : ((ba' (c :: d :: t)).extract 0 2).toList = [c, d] := by
      rw [ByteArray.toList_eq, extract_list]
      rfl
    have HE2 : Hid ((ba' (c :: d :: t)).extract 0 2 = ba' [c, d]) := Lib.hid (cut_take (c :: d :: t) 2)
    have g2 : decide ((1 : Int) < (t.length : Int) + 2) = true := by simp; omega
    have r2 : ¬ ((ba' (c :: d :: t)).size < 2) := by omega
    cases htw : twosL.contains [c, d] with
    | true =>
      have HF : Hid (signF (c :: d :: t) = [c, d]) := Lib.hid (by unfold signF; simp only; rw [if_pos htw])
      have hm : [c, d] ∈ twosL := by simpa using htw
      unfold twosL at hm
      simp only [List.mem_cons, List.cons.injEq, and_true, List.not_mem_nil, or_false] at hm
      clear htw hat
      rcases hm with ⟨rfl, rfl⟩ | ⟨rfl, rfl⟩ | ⟨rfl, rfl⟩ | ⟨rfl, rfl⟩ | ⟨rfl, rfl⟩ | ⟨rfl, rfl⟩ | ⟨rfl, rfl⟩ | ⟨rfl, rfl⟩ | ⟨rfl, rfl⟩
      all_goals go_enter Tryz.func49, Tryz.ntmps49
      all_goals go_wp2
      all_goals rw [HE2.out]
      all_goals go_ret
      all_goals exact ⟨by rw [HF.out]; rfl, Below.refl _ _⟩
    | false =>
      have q0 : (((ba' (c :: d :: t)).extract 0 2).toList == [58, 61]) = false := by rw [gx]; simp only [beq_eq_false_iff_ne]; intro h; rw [h] at htw; exact absurd htw (by decide)
      have q1 : (((ba' (c :: d :: t)).extract 0 2).toList == [58, 58]) = false := by rw [gx]; simp only [beq_eq_false_iff_ne]; intro h; rw [h] at htw; exact absurd htw (by decide)
      have q2 : (((ba' (c :: d :: t)).extract 0 2).toList == [46, 46]) = false := by rw [gx]; simp only [beq_eq_false_iff_ne]; intro h; rw [h] at htw; exact absurd htw (by decide)
      have q3 : (((ba' (c :: d :: t)).extract 0 2).toList == [47, 47]) = false := by rw [gx]; simp only [beq_eq_false_iff_ne]; intro h; rw [h] at htw; exact absurd htw (by decide)
      have q4 : (((ba' (c :: d :: t)).extract 0 2).toList == [33, 61]) = false := by rw [gx]; simp only [beq_eq_false_iff_ne]; intro h; rw [h] at htw; exact absurd htw (by decide)
      have q5 : (((ba' (c :: d :: t)).extract 0 2).toList == [60, 61]) = false := by rw [gx]; simp only [beq_eq_false_iff_ne]; intro h; rw [h] at htw; exact absurd htw (by decide)
      have q6 : (((ba' (c :: d :: t)).extract 0 2).toList == [60, 60]) = false := by rw [gx]; simp only [beq_eq_false_iff_ne]; intro h; rw [h] at htw; exact absurd htw (by decide)
      have q7 : (((ba' (c :: d :: t)).extract 0 2).toList == [62, 61]) = false := by rw [gx]; simp only [beq_eq_false_iff_ne]; intro h; rw [h] at htw; exact absurd htw (by decide)
      have q8 : (((ba' (c :: d :: t)).extract 0 2).toList == [62, 62]) = false := by rw [gx]; simp only [beq_eq_false_iff_ne]; intro h; rw [h] at htw; exact absurd htw (by decide)
      have HS : Hid (signF (c :: d :: t) = oneF c) := Lib.hid (by unfold signF; simp only; rw [if_neg (by rw [htw]; decide)])
      clear htw gx
      go_enter Tryz.func49, Tryz.ntmps49
      go_wp2_with fail
      refine (one_index c w).mono ?_
      rintro e w1 ⟨⟨r, rfl, hr⟩, rfl⟩
      cases hcn : onesL.contains c with
      | true =>
        have HF : Hid (signF (c :: d :: t) = [c]) := Lib.hid (by rw [HS.out]; unfold oneF; rw [if_pos hcn])
        rw [hcn] at hr
        have hr1 : decide (r < 0) = false := hr
        clear hcn hr
        go_wp2
        rw [HEX.out]
        go_ret
        exact ⟨by rw [HF.out]; rfl, Below.refl _ _⟩
      | false =>
        have HF : Hid (signF (c :: d :: t) = []) := Lib.hid (by rw [HS.out]; unfold oneF; rw [if_neg (by rw [hcn]; decide)])
        rw [hcn] at hr
        have hr1 : decide (r < 0) = true := hr
        clear hcn hr
        go_wp2
        go_ret
        exact ⟨by rw [HF.out]; rfl, Below.refl _ _⟩
/-- The token that a text begins with. -/
def tokF : List UInt8 → Nat × List UInt8 × Nat
  | [] => (0, [], 0)
  | c :: t => if c = 36 then varF t else if c = 34 ∨ c = 39 then quoF c t else if 0 < digF (c :: t) ∨ (c = 46 ∧ 0 < digF t) then numT (c :: t)
    else if signF (c :: t) = [] then (1, qualF (c :: t), (qualF (c :: t)).length) else (6, signF (c :: t), (signF (c :: t)).length)
end Go.Proofs.YtolkfhiominjbaaGreatDoor
namespace Go.Proofs.YtolkfhiominjbaaGreatDoor
open Go.RowKit Go.Lib
set_option maxRecDepth 100000
set_option maxHeartbeats 8000000
theorem signF_take (l : List UInt8) : l.take (signF l).length = signF l := by
  rcases l with _ | ⟨c, t⟩
  · rfl
  rcases t with _ | ⟨d, t⟩
  · unfold signF oneF
    simp only
    split <;> rfl
  · unfold signF oneF
    simp only
    split
    · rfl
    · split <;> rfl
theorem signF_le (l : List UInt8) : (signF l).length ≤ l.length := by
  have := congrArg List.length (signF_take l)
  rw [List.length_take] at this
  omega
theorem tok_cons (c : UInt8) (t : List UInt8) : tokF (c :: t) = if c = 36 then varF t else if c = 34 ∨ c = 39 then quoF c t else if 0 < digF (c :: t) ∨ (c = 46 ∧ 0 < digF t) then numT (c :: t)
    else if signF (c :: t) = [] then (1, qualF (c :: t), (qualF (c :: t)).length) else (6, signF (c :: t), (signF (c :: t)).length) := rfl
theorem tok_any (l : List UInt8) (hne : l ≠ []) (hl : l.length ≤ 70000) (w : World) (hE : Env w) : Calls Tryz.prog 24 #[.string (ba' l)] w fun e w' => TPost (tokF l) e ∧ Below w.heap.size w w' := by
  rcases l with _ | ⟨c, t⟩
  · exact absurd rfl hne
  clear hne
  have hsz := sz_cons c t
  have hat := at_cons c t hsz
  have htl : t.length ≤ 69999 := by simp only [List.length_cons] at hl; omega
  by_cases h36 : c = 36
  · subst h36
    have HV := Lib.hid (var_any t htl w hE)
    have HF : Hid (tokF (36 :: t) = varF t) := Lib.hid (by rw [tok_cons, if_pos rfl])
    have g36 : ((((ba' (36 :: t))[0]'hsz).toNat : Int) == 36) = true := rfl
    clear hE hat
    go_enter Tryz.func24, Tryz.ntmps24
    go_wp2_with fail
    refine HV.out.mono ?_
    rintro e w1 ⟨he, hb1⟩
    obtain rfl : e = _ := he
    have HB1 := Lib.hid hb1
    clear hb1
    go_wp2
    go_ret3
    exact ⟨by rw [HF.out]; rfl, HB1.out⟩
  have g36 : ((((ba' (c :: t))[0]'hsz).toNat : Int) == 36) = false := by rw [hat]; exact nat_ne (b := 36) h36
  by_cases hq : c = 34 ∨ c = 39
  · have HV := Lib.hid (quo_any c hq t htl w hE)
    have HF : Hid (tokF (c :: t) = quoF c t) := Lib.hid (by rw [tok_cons, if_neg h36, if_pos hq])
    clear hE hat
    rcases hq with rfl | rfl
    · have g34 : ((((ba' (34 :: t))[0]'hsz).toNat : Int) == 34) = true := rfl
      go_enter Tryz.func24, Tryz.ntmps24
      go_wp2_with fail
      refine HV.out.mono ?_
      rintro e w1 ⟨he, hb1⟩
      obtain rfl : e = _ := he
      have HB1 := Lib.hid hb1
      clear hb1
      go_wp2
      go_ret3
      exact ⟨by rw [HF.out]; rfl, HB1.out⟩
    · have g34 : ((((ba' (39 :: t))[0]'hsz).toNat : Int) == 34) = false := rfl
      have g39 : ((((ba' (39 :: t))[0]'hsz).toNat : Int) == 39) = true := rfl
      go_enter Tryz.func24, Tryz.ntmps24
      go_wp2_with fail
      refine HV.out.mono ?_
      rintro e w1 ⟨he, hb1⟩
      obtain rfl : e = _ := he
      have HB1 := Lib.hid hb1
      clear hb1
      go_wp2
      go_ret3
      exact ⟨by rw [HF.out]; rfl, HB1.out⟩
  have g34 : ((((ba' (c :: t))[0]'hsz).toNat : Int) == 34) = false := by rw [hat]; exact nat_ne (b := 34) fun h => hq (.inl h)
  have g39 : ((((ba' (c :: t))[0]'hsz).toNat : Int) == 39) = false := by rw [hat]; exact nat_ne (b := 39) fun h => hq (.inr h)
  have HD := Lib.hid (dig_any (c :: t) hl w)
  have HD2 : Hid (∀ W : World, Calls Tryz.prog 47 #[.string (ba' t)] W fun e w' => e = .returned (.int .i64 (digF t : Nat)) ∧ Below W.heap.size W w') := Lib.hid fun W => dig_any t (by omega) W
  have HN : Hid (∀ W : World, Below w.heap.size w W → Calls Tryz.prog 48 #[.string (ba' (c :: t))] W fun e w' => TPost (numT (c :: t)) e ∧ Below W.heap.size W w') := Lib.hid fun W hW => numT_any (c :: t) hl W (hE.below hW)
  have HS : Hid (∀ W : World, Calls Tryz.prog 49 #[.string (ba' (c :: t))] W fun e w' => e = .returned (.string (ba' (signF (c :: t)))) ∧ Below W.heap.size W w') := Lib.hid fun W => sign_any (c :: t) (by simp) (by omega) W
  have HQ : Hid (∀ W : World, Below w.heap.size w W → Calls Tryz.prog 50 #[.string (ba' (c :: t))] W fun e w' => e = .returned (.string (ba' (qualF (c :: t)))) ∧ Below W.heap.size W w') := Lib.hid fun W hW => qual_any (c :: t) (by omega) W (hE.below hW)
  have hX : (ba' (c :: t)).extract 1 (ba' (c :: t)).size = ba' t := cut_drop (c :: t) 1
  have HX := Lib.hid hX
  have hz1 : ¬ ((ba' (c :: t)).size < 1) := by omega
  have hF : tokF (c :: t) = if 0 < digF (c :: t) ∨ (c = 46 ∧ 0 < digF t) then numT (c :: t) else if signF (c :: t) = [] then (1, qualF (c :: t), (qualF (c :: t)).length) else (6, signF (c :: t), (signF (c :: t)).length) := by
    rw [tok_cons, if_neg h36, if_neg hq]
  have hst := signF_take (c :: t)
  have hsl := signF_le (c :: t)
  obtain ⟨d, hd⟩ : ∃ d, digF (c :: t) = d := ⟨_, rfl⟩
  obtain ⟨d2, hd2⟩ : ∃ d, digF t = d := ⟨_, rfl⟩
  rw [hd] at HD hF
  rw [hd2] at HD2 hF
  clear hE h36 hq hd hd2 hX hl htl
  by_cases h0 : 0 < d
  · have HF : Hid (tokF (c :: t) = numT (c :: t)) := Lib.hid (by rw [hF, if_pos (.inl h0)])
    have q0 : decide ((0 : Int) < (d : Int)) = true := by simp; omega
    have q0' : decide (0 < d) = true := by simpa using h0
    clear hF hat hst hsl
    go_enter Tryz.func24, Tryz.ntmps24
    go_wp2_with fail
    refine HD.out.mono ?_
    rintro e w1 ⟨rfl, hb1⟩
    have HB1 := Lib.hid hb1
    clear hb1
    go_wp2_with fail
    refine (HN.out w1 HB1.out).mono ?_
    rintro e w2 ⟨he, hb2⟩
    obtain rfl : e = _ := he
    have HB2 := Lib.hid (bt HB1.out hb2)
    clear hb2
    go_wp2
    go_ret3
    exact ⟨by rw [HF.out]; rfl, HB2.out⟩
  obtain rfl : d = 0 := by omega
  by_cases h46 : c = 46
  · subst h46
    have g46 : ((((ba' (46 :: t))[0]'hsz).toNat : Int) == 46) = true := rfl
    by_cases h1 : 0 < d2
    · have HF : Hid (tokF (46 :: t) = numT (46 :: t)) := Lib.hid (by rw [hF, if_pos (.inr ⟨rfl, h1⟩)])
      have q0 : decide ((0 : Int) < (d2 : Int)) = true := by simp; omega
      have q0' : decide (0 < d2) = true := by simpa using h1
      clear hF hat hst hsl
      go_enter Tryz.func24, Tryz.ntmps24
      go_wp2_with fail
      refine HD.out.mono ?_
      rintro e w1 ⟨rfl, hb1⟩
      have HB1 := Lib.hid hb1
      clear hb1
      go_wp2_with fail
      rw [HX.out]
      refine (HD2.out w1).mono ?_
      rintro e w2 ⟨rfl, hb2⟩
      have HB2 := Lib.hid (bt HB1.out hb2)
      clear hb2
      go_wp2_with fail
      refine (HN.out w2 HB2.out).mono ?_
      rintro e w3 ⟨he, hb3⟩
      obtain rfl : e = _ := he
      have HB3 := Lib.hid (bt HB2.out hb3)
      clear hb3
      go_wp2
      go_ret3
      exact ⟨by rw [HF.out]; rfl, HB3.out⟩
    · obtain rfl : d2 = 0 := by omega
      have hF2 : tokF (46 :: t) = if signF (46 :: t) = [] then (1, qualF (46 :: t), (qualF (46 :: t)).length) else (6, signF (46 :: t), (signF (46 :: t)).length) := by rw [hF, if_neg (by omega)]
      clear hF
      obtain ⟨sg, hsg⟩ : ∃ sg, signF (46 :: t) = sg := ⟨_, rfl⟩
      rw [hsg] at HS hF2 hst hsl
      clear hsg
      by_cases hs0 : sg = []
      · subst hs0
        have HF : Hid (tokF (46 :: t) = (1, qualF (46 :: t), (qualF (46 :: t)).length)) := Lib.hid (by rw [hF2, if_pos rfl])
        have s2 : (ba' []).size = 0 := size_ba _
        obtain ⟨qn, hqn⟩ : ∃ qn, qualF (46 :: t) = qn := ⟨_, rfl⟩
        rw [hqn] at HF HQ
        have s3 : (ba' qn).size = qn.length := size_ba _
        clear hF2 hst hsl hat hqn
        go_enter Tryz.func24, Tryz.ntmps24
        go_wp2_with fail
        refine HD.out.mono ?_
        rintro e w1 ⟨rfl, hb1⟩
        have HB1 := Lib.hid hb1
        clear hb1
        go_wp2_with fail
        rw [HX.out]
        refine (HD2.out w1).mono ?_
        rintro e w2 ⟨rfl, hb2⟩
        have HB2 := Lib.hid (bt HB1.out hb2)
        clear hb2
        go_wp2_with fail
        refine (HS.out w2).mono ?_
        rintro e w3 ⟨rfl, hb3⟩
        have HB3 := Lib.hid (bt HB2.out hb3)
        clear hb3
        go_wp2_with fail
        refine (HQ.out w3 HB3.out).mono ?_
        rintro e w4 ⟨rfl, hb4⟩
        have HB4 := Lib.hid (bt HB3.out hb4)
        clear hb4
        go_wp2
        go_ret3
        exact ⟨by rw [HF.out]; rfl, HB4.out⟩
      · have HF : Hid (tokF (46 :: t) = (6, sg, sg.length)) := Lib.hid (by rw [hF2, if_neg hs0])
        have s2 : (ba' sg).size = sg.length := size_ba _
        have S4 : Hid ((ba' (46 :: t)).size = (46 :: t).length) := Lib.hid (size_ba _)
        have hsp : 0 < sg.length := by cases sg with | nil => exact absurd rfl hs0 | cons => simp
        have q1 : decide ((0 : Int) < (sg.length : Int)) = true := by simp; omega
        have q1' : decide (0 < sg.length) = true := by simpa using hsp
        have HX4 : Hid ((ba' (46 :: t)).extract 0 sg.length = ba' sg) := Lib.hid (by rw [cut_take, hst])
        have HSL := Lib.hid hsl
        clear hF2 hst hsl hat hs0
        go_enter Tryz.func24, Tryz.ntmps24
        go_wp2_with fail
        refine HD.out.mono ?_
        rintro e w1 ⟨rfl, hb1⟩
        have HB1 := Lib.hid hb1
        clear hb1
        go_wp2_with fail
        rw [HX.out]
        refine (HD2.out w1).mono ?_
        rintro e w2 ⟨rfl, hb2⟩
        have HB2 := Lib.hid (bt HB1.out hb2)
        clear hb2
        go_wp2_with fail
        refine (HS.out w2).mono ?_
        rintro e w3 ⟨rfl, hb3⟩
        have HB3 := Lib.hid (bt HB2.out hb3)
        clear hb3
        go_upto_region 9 with fail
        go_cut [2, 3, 4] (fun s2 s3 s4 wx => s2 = .int .i64 6 ∧ s3 = .string (ba' sg) ∧ s4 = .int .i64 (sg.length : Nat) ∧ Below w.heap.size w wx)
        case first =>
          rename_i J K' hJ hK'
          refine tokR_region 0 sg.length (ba' (46 :: t)) (ba' sg) _ _ _ _ _ _ _ _ _ _ _ _ _ _ _ _ _ _ _ _ _ _ _ _ _ _ _ _ _ _ _ _ _ _ _ _ _ _ _ _ _ _ _ _ _ _ _ _ _ _ _ _ _ _ _ _ _ _ _ _ _ _ w w3 _ HB3.out (by rw [S4.out]; exact HSL.out) HX4.out ?_
          intro w' _ hb
          refine hK' _ _ (Met.intro (hJ _ _ ?_))
          (repeat apply Exists.intro)
          refine ⟨?_, rfl⟩
          exact ⟨rfl, rfl, rfl, hb⟩
        case rest =>
          obtain ⟨rfl, rfl, rfl, hbc⟩ := hcut
          go_wp2
          go_ret3
          exact ⟨by rw [HF.out]; rfl, hbc⟩
  · have g46 : ((((ba' (c :: t))[0]'hsz).toNat : Int) == 46) = false := by rw [hat]; exact nat_ne (b := 46) h46
    have hF2 : tokF (c :: t) = if signF (c :: t) = [] then (1, qualF (c :: t), (qualF (c :: t)).length) else (6, signF (c :: t), (signF (c :: t)).length) := by rw [hF, if_neg (fun h => h.elim (by omega) (fun h => h46 h.1))]
    clear hF h46
    obtain ⟨sg, hsg⟩ : ∃ sg, signF (c :: t) = sg := ⟨_, rfl⟩
    rw [hsg] at HS hF2 hst hsl
    clear hsg
    by_cases hs0 : sg = []
    · subst hs0
      have HF : Hid (tokF (c :: t) = (1, qualF (c :: t), (qualF (c :: t)).length)) := Lib.hid (by rw [hF2, if_pos rfl])
      have s2 : (ba' []).size = 0 := size_ba _
      obtain ⟨qn, hqn⟩ : ∃ qn, qualF (c :: t) = qn := ⟨_, rfl⟩
      rw [hqn] at HF HQ
      have s3 : (ba' qn).size = qn.length := size_ba _
      clear hF2 hst hsl hat hqn
      go_enter Tryz.func24, Tryz.ntmps24
      go_wp2_with fail
      refine HD.out.mono ?_
      rintro e w1 ⟨rfl, hb1⟩
      have HB1 := Lib.hid hb1
      clear hb1
      go_wp2_with fail
      refine (HS.out w1).mono ?_
      rintro e w2 ⟨rfl, hb2⟩
      have HB2 := Lib.hid (bt HB1.out hb2)
      clear hb2
      go_wp2_with fail
      refine (HQ.out w2 HB2.out).mono ?_
      rintro e w3 ⟨rfl, hb3⟩
      have HB3 := Lib.hid (bt HB2.out hb3)
      clear hb3
      go_wp2
      go_ret3
      exact ⟨by rw [HF.out]; rfl, HB3.out⟩
    · have HF : Hid (tokF (c :: t) = (6, sg, sg.length)) := Lib.hid (by rw [hF2, if_neg hs0])
      have s2 : (ba' sg).size = sg.length := size_ba _
      have S4 : Hid ((ba' (c :: t)).size = (c :: t).length) := Lib.hid (size_ba _)
      have hsp : 0 < sg.length := by cases sg with | nil => exact absurd rfl hs0 | cons => simp
      have q1 : decide ((0 : Int) < (sg.length : Int)) = true := by simp; omega
      have q1' : decide (0 < sg.length) = true := by simpa using hsp
      have HX4 : Hid ((ba' (c :: t)).extract 0 sg.length = ba' sg) := Lib.hid (by rw [cut_take, hst])
      have HSL := Lib.hid hsl
      clear hF2 hst hsl hat hs0
      go_enter Tryz.func24, Tryz.ntmps24
      go_wp2_with fail
      refine HD.out.mono ?_
      rintro e w1 ⟨rfl, hb1⟩
      have HB1 := Lib.hid hb1
      clear hb1
      go_wp2_with fail
      refine (HS.out w1).mono ?_
      rintro e w2 ⟨rfl, hb2⟩
      have HB2 := Lib.hid (bt HB1.out hb2)
      clear hb2
      go_upto_region 9 with fail
      go_cut [2, 3, 4] (fun s2 s3 s4 wx => s2 = .int .i64 6 ∧ s3 = .string (ba' sg) ∧ s4 = .int .i64 (sg.length : Nat) ∧ Below w.heap.size w wx)
      case first =>
        rename_i J K' hJ hK'
        refine tokR_region 0 sg.length (ba' (c :: t)) (ba' sg) _ _ _ _ _ _ _ _ _ _ _ _ _ _ _ _ _ _ _ _ _ _ _ _ _ _ _ _ _ _ _ _ _ _ _ _ _ _ _ _ _ _ _ _ _ _ _ _ _ _ _ _ _ _ _ _ _ _ _ _ _ _ w w2 _ HB2.out (by rw [S4.out]; exact HSL.out) HX4.out ?_
        intro w' _ hb
        refine hK' _ _ (Met.intro (hJ _ _ ?_))
        (repeat apply Exists.intro)
        refine ⟨?_, rfl⟩
        exact ⟨rfl, rfl, rfl, hb⟩
      case rest =>
        obtain ⟨rfl, rfl, rfl, hbc⟩ := hcut
        go_wp2
        go_ret3
        exact ⟨by rw [HF.out]; rfl, hbc⟩
end Go.Proofs.YtolkfhiominjbaaGreatDoor
namespace Go.Proofs.YtolkfhiominjbaaGreatDoor
open Go.RowKit Go.Lib
set_option maxRecDepth 100000
set_option maxHeartbeats 8000000
/-- Where a remark ends, of which so many are open and so many bytes are behind; 0: it has no end. -/
def remGo : List UInt8 → Nat → Nat → Nat
  | [], _, _ => 0
  | a :: r, op, k => match r with
    | [] => 0
    | b :: t => if a = 40 ∧ b = 58 then remGo t (op + 1) (k + 2) else if a = 58 ∧ b = 41 then (if op = 1 then k + 2 else remGo t (op - 1) (k + 2)) else remGo (b :: t) op (k + 1)
theorem remGo_cons (a b : UInt8) (t : List UInt8) (op k : Nat) : remGo (a :: b :: t) op k = if a = 40 ∧ b = 58 then remGo t (op + 1) (k + 2) else if a = 58 ∧ b = 41 then (if op = 1 then k + 2 else remGo t (op - 1) (k + 2)) else remGo (b :: t) op (k + 1) := by
  conv => lhs; unfold remGo
theorem remGo_le : ∀ (n : Nat) (l : List UInt8) (op k : Nat), l.length ≤ n → remGo l op k = 0 ∨ (k + 2 ≤ remGo l op k ∧ remGo l op k ≤ k + l.length)
  | n, [], _, _, _ => .inl rfl
  | n, [a], _, _, _ => .inl rfl
  | 0, a :: b :: t, _, _, h => by simp at h
  | n + 1, a :: b :: t, op, k, h => by
    rw [remGo_cons]
    simp only [List.length_cons] at h ⊢
    split
    · have := remGo_le n t (op + 1) (k + 2) (by omega)
      omega
    · split
      · split
        · exact .inr ⟨by omega, by omega⟩
        · have := remGo_le n t (op - 1) (k + 2) (by omega)
          omega
      · have := remGo_le n (b :: t) op (k + 1) (by simp only [List.length_cons]; omega)
        simp only [List.length_cons] at this
        omega
theorem remark_any (l : List UInt8) (hl : l.length ≤ 70000) (hp : ∃ t, l = 40 :: 58 :: t) (w : World) : Calls Tryz.prog 44 #[.string (ba' l)] w fun e w' => e = .returned (.int .i64 (remGo l 0 0 : Nat)) ∧ Below w.heap.size w w' := by
  have s1 : (ba' l).size = l.length := size_ba l
  obtain ⟨R, hR⟩ : ∃ R, remGo l 0 0 = R := ⟨_, rfl⟩
  have HR := Lib.hid hR
  have HP := Lib.hid hp
  rw [hR]
  clear hR hp
  go_enter Tryz.func44, Tryz.ntmps44
  go_wp2
  go_loopw [3, 4] (fun s3 s4 wx => ∃ (op k : Nat) (r : List UInt8), s3 = .int .i64 (op : Nat) ∧ s4 = .int .i64 (k : Nat) ∧ Hid (l.drop k = r) ∧ k ≤ l.length ∧ op ≤ k ∧ Hid (remGo r op k = R) ∧ Hid (op = 0 → ∃ t, r = 40 :: 58 :: t) ∧ Below w.heap.size w wx) (fun _ s4 _ => l.length - (intOf s4).toNat)
  case atStart => exact ⟨0, 0, l, rfl, rfl, Lib.hid rfl, Nat.zero_le _, Nat.le_refl _, HR, Lib.hid fun _ => HP.out, Below.refl _ _⟩
  case round =>
    obtain ⟨op, k, r, rfl, rfl, HD, hk, hopk, HG, HO, hB⟩ := hrel
    have HB := Lib.hid hB
    by_cases h2 : k + 2 ≤ l.length
    · obtain ⟨a, b, t, hr⟩ : ∃ a b t, r = a :: b :: t := by
        have h := congrArg List.length HD.out
        rw [List.length_drop] at h
        rcases r with _ | ⟨a, _ | ⟨b, t⟩⟩
        · simp at h; omega
        · simp at h; omega
        · exact ⟨a, b, t, rfl⟩
      subst hr
      have gx : ((ba' l).extract k (k + 2)).toList = [a, b] := by
        rw [ByteArray.toList_eq, extract_list]
        show (l.take (k + 2)).drop k = _
        rw [List.drop_take, HD.out, show k + 2 - k = 2 by omega]
        rfl
      have HDB : Hid (l.drop (k + 1) = b :: t) := Lib.hid (by rw [← List.drop_drop, HD.out]; rfl)
      have HDT : Hid (l.drop (k + 2) = t) := Lib.hid (by rw [← List.drop_drop, HD.out]; rfl)
      have g0 : decide ((k : Int) + 2 ≤ (l.length : Int)) = true := by simp; omega
      have g0' : decide (k + 2 ≤ l.length) = true := by simpa using h2
      have r1 : ¬ (l.length < k + 2) := by omega
      by_cases h40 : a = 40 ∧ b = 58
      · have q1 : (((ba' l).extract k (k + 2)).toList == [40, 58]) = true := by rw [gx, h40.1, h40.2]; rfl
        have HN : Hid (remGo t (op + 1) (k + 2) = R) := Lib.hid (by have h := HG.out; rw [remGo_cons, if_pos h40] at h; exact h)
        have q3 : ((op : Int) + 1 == 0) = false := by rw [beq_eq_false_iff_ne]; omega
        clear gx HG HO h40
        go_wp2
        go_roundw
        case rel => exact ⟨op + 1, k + 2, t, by go_num, by go_num, HDT, by omega, by omega, HN, Lib.hid fun h => absurd h (by omega), HB.out⟩
        case measure => simp [intOf]; omega
      · have q1 : (((ba' l).extract k (k + 2)).toList == [40, 58]) = false := by
          rw [gx, beq_eq_false_iff_ne]
          intro h
          simp only [List.cons.injEq, and_true] at h
          exact h40 h
        have hop : 0 < op := by
          rcases Nat.eq_zero_or_pos op with h | h
          · obtain ⟨t', e⟩ := HO.out h
            simp only [List.cons.injEq] at e
            exact absurd ⟨e.1, e.2.1⟩ h40
          · exact h
        by_cases h58 : a = 58 ∧ b = 41
        · have q2 : (((ba' l).extract k (k + 2)).toList == [58, 41]) = true := by rw [gx, h58.1, h58.2]; rfl
          have hN := HG.out
          rw [remGo_cons, if_neg h40, if_pos h58] at hN
          by_cases h1 : op = 1
          · subst h1
            have HN : Hid (R = k + 2) := Lib.hid hN.symm
            clear gx HG HO h40 h58 hN
            go_wp2
            go_ret
            refine ⟨?_, HB.out⟩
            rw [HN.out]
            rw [show ((k + 2 : Nat) : Int) = (k : Int) + 2 by omega]
            rfl
          · rw [if_neg h1] at hN
            have HN : Hid (remGo t (op - 1) (k + 2) = R) := Lib.hid hN
            obtain ⟨o, rfl⟩ : ∃ o, op = o + 2 := ⟨op - 2, by omega⟩
            have q3 : (((o + 2 : Nat) : Int) - 1 == 0) = false := by rw [beq_eq_false_iff_ne]; omega
            have q4 : ((o : Int) + 2 - 1 == 0) = false := by rw [beq_eq_false_iff_ne]; omega
            have q5 : ((o : Int) + 2 - 1) = ((o + 1 : Nat) : Int) := by omega
            clear gx HG HO h40 h58 hN h1
            go_wp2
            go_roundw
            case rel => exact ⟨o + 1, k + 2, t, by go_num, by go_num, HDT, by omega, by omega, HN, Lib.hid fun h => absurd h (by omega), HB.out⟩
            case measure => simp [intOf]; omega
        · have q2 : (((ba' l).extract k (k + 2)).toList == [58, 41]) = false := by
            rw [gx, beq_eq_false_iff_ne]
            intro h
            simp only [List.cons.injEq, and_true] at h
            exact h58 h
          have HN : Hid (remGo (b :: t) op (k + 1) = R) := Lib.hid (by have h := HG.out; rw [remGo_cons, if_neg h40, if_neg h58] at h; exact h)
          have q3 : ((op : Int) == 0) = false := by rw [beq_eq_false_iff_ne]; omega
          clear gx HG HO h40 h58
          go_wp2
          go_roundw
          case rel => exact ⟨op, k + 1, b :: t, rfl, by go_num, HDB, by omega, by omega, HN, Lib.hid fun h => absurd h (by omega), HB.out⟩
          case measure => simp [intOf]; omega
    · have HN : Hid (R = 0) := Lib.hid (by
        have h := congrArg List.length HD.out
        rw [List.length_drop] at h
        have h3 := HG.out
        rcases r with _ | ⟨a, _ | ⟨b, t⟩⟩
        · exact h3.symm
        · exact h3.symm
        · simp at h; omega)
      have g0 : decide ((k : Int) + 2 ≤ (l.length : Int)) = false := by simp; omega
      have g0' : decide (k + 2 ≤ l.length) = false := by simpa using h2
      clear HG HO
      go_wp2
      go_ret
      exact ⟨by rw [HN.out]; rfl, HB.out⟩
end Go.Proofs.YtolkfhiominjbaaGreatDoor
namespace Go.Proofs.YtolkfhiominjbaaGreatDoor
open Go.RowKit Go.Lib
set_option maxRecDepth 100000
set_option maxHeartbeats 8000000
def spc : List UInt8 := [9, 10, 13, 32]
def trimW (l : List UInt8) : List UInt8 := Lib.trimLeftS l spc
theorem trimW_le (l : List UInt8) : (trimW l).length ≤ l.length := by
  unfold trimW Lib.trimLeftS
  exact (List.dropWhile_sublist _).length_le
def passGo : Nat → List UInt8 → Option (List UInt8)
  | 0, _ => none
  | f + 1, l => if Lib.hasPrefix l [40, 58] = true then (if remGo l 0 0 = 0 then none else passGo f (trimW (l.drop (remGo l 0 0)))) else some l
/-- What is left behind spaces and remarks. -/
def passF (l : List UInt8) : Option (List UInt8) := passGo (l.length + 1) (trimW l)
theorem passGo_le : ∀ (f : Nat) (l m : List UInt8), passGo f l = some m → m.length ≤ l.length
  | 0, _, _, h => by cases h
  | f + 1, l, m, h => by
    unfold passGo at h
    split at h
    · split at h
      · cases h
      · have h1 := passGo_le f _ m h
        have h2 := trimW_le (l.drop (remGo l 0 0))
        rw [List.length_drop] at h2
        omega
    · cases h; exact Nat.le_refl _
theorem passF_le {l m : List UInt8} (h : passF l = some m) : m.length ≤ l.length := Nat.le_trans (passGo_le _ _ _ h) (trimW_le l)
def PPost (r : Option (List UInt8)) (e : Ending) : Prop := match r with
  | some m => e = .returned (.tuple #[.string (ba' m), .bool true])
  | none => e = .returned (.tuple #[.string ⟨#[]⟩, .bool false])
theorem pre2 {l : List UInt8} (h : Lib.hasPrefix l [40, 58] = true) : ∃ t, l = 40 :: 58 :: t := by
  rcases l with _ | ⟨a, _ | ⟨b, t⟩⟩
  · cases h
  · simp [Lib.hasPrefix, List.isPrefixOf] at h
  · simp [Lib.hasPrefix, List.isPrefixOf] at h
    exact ⟨t, by rw [← h.1, ← h.2]⟩
theorem pass_any (s : List UInt8) (hs : s.length ≤ 70000) (w : World) : Calls Tryz.prog 23 #[.string (ba' s)] w fun e w' => PPost (passF s) e ∧ Below w.heap.size w w' := by
  have HT : Hid (∀ (x : List UInt8) (W : World), Calls Tryz.prog 42 #[.string (ba' x), .string (ba' [9, 10, 13, 32])] W fun e w' => e = .returned (.string (ba' (trimW x))) ∧ Below W.heap.size W w') := Lib.hid fun x W => trimLeft_any x [9, 10, 13, 32] W (by decide) (by decide)
  obtain ⟨R, hR⟩ : ∃ R, passF s = R := ⟨_, rfl⟩
  have HR : Hid (passGo (s.length + 1) (trimW s) = R) := Lib.hid hR
  have hle := trimW_le s
  rw [hR]
  clear hR
  go_enter Tryz.func23, Tryz.ntmps23
  go_wp2_with fail
  refine (HT.out s w).mono ?_
  rintro e w1 ⟨rfl, hb1⟩
  have HB1 := Lib.hid hb1
  clear hb1
  go_wp2
  go_loopw [4] (fun s4 wx => ∃ (l : List UInt8) (f : Nat), s4 = .string (ba' l) ∧ l.length ≤ 70000 ∧ l.length < f ∧ Hid (passGo f l = R) ∧ Below w.heap.size w wx) (fun s4 _ => sLen s4)
  case atStart => exact ⟨trimW s, s.length + 1, rfl, by omega, by omega, HR, HB1.out⟩
  case round =>
    obtain ⟨l, f, rfl, hl, hf, HG, hB⟩ := hrel
    have HB := Lib.hid hB
    obtain ⟨f, rfl⟩ : ∃ f', f = f' + 1 := ⟨f - 1, by omega⟩
    have s1 : (ba' l).size = l.length := size_ba l
    cases hp : Lib.hasPrefix l [40, 58] with
    | false =>
      have HN : Hid (R = some l) := Lib.hid (by rw [← HG.out]; unfold passGo; rw [if_neg (by rw [hp]; decide)])
      have hp' : Lib.hasPrefix (ba' l).data.toList (⟨#[40, 58]⟩ : ByteArray).data.toList = false := hp
      clear HG hp
      go_wp2_with fail
      refine (Tryz.strings_HasPrefix (ba' l) ⟨#[40, 58]⟩ wr).mono ?_
      rintro e w2 ⟨rfl, rfl⟩
      rw [hp']
      go_wp2
      go_ret2
      exact ⟨by rw [HN.out]; rfl, HB.out⟩
    | true =>
      have hp' : Lib.hasPrefix (ba' l).data.toList (⟨#[40, 58]⟩ : ByteArray).data.toList = true := hp
      have HRM : Hid (∀ W : World, Calls Tryz.prog 44 #[.string (ba' l)] W fun e w' => e = .returned (.int .i64 (remGo l 0 0 : Nat)) ∧ Below W.heap.size W w') := Lib.hid fun W => remark_any l hl (pre2 hp) W
      have hrl := remGo_le l.length l 0 0 (Nat.le_refl _)
      have hG := HG.out
      unfold passGo at hG
      rw [if_pos hp] at hG
      obtain ⟨k, hk⟩ : ∃ k, remGo l 0 0 = k := ⟨_, rfl⟩
      rw [hk] at HRM hrl hG
      clear HG hp hk
      by_cases h0 : k = 0
      · subst h0
        have HN : Hid (R = none) := Lib.hid (by rw [← hG]; rfl)
        clear hG
        go_wp2_with fail
        refine (Tryz.strings_HasPrefix (ba' l) ⟨#[40, 58]⟩ wr).mono ?_
        rintro e w2 ⟨rfl, rfl⟩
        rw [hp']
        go_wp2_with fail
        refine (HRM.out w2).mono ?_
        rintro e w3 ⟨rfl, hb3⟩
        have HB3 := Lib.hid (bt HB.out hb3)
        clear hb3
        go_wp2
        go_ret2
        exact ⟨by rw [HN.out]; rfl, HB3.out⟩
      · rw [if_neg h0] at hG
        have HN : Hid (passGo f (trimW (l.drop k)) = R) := Lib.hid hG
        have HX : Hid ((ba' l).extract k l.length = ba' (l.drop k)) := Lib.hid (by have h := cut_drop l k; rw [size_ba] at h; exact h)
        have q0 : ((k : Int) == 0) = false := by rw [beq_eq_false_iff_ne]; omega
        have htl := trimW_le (l.drop k)
        rw [List.length_drop] at htl
        have r1 : ¬ (l.length < k) := by omega
        clear hG
        go_wp2_with fail
        refine (Tryz.strings_HasPrefix (ba' l) ⟨#[40, 58]⟩ wr).mono ?_
        rintro e w2 ⟨rfl, rfl⟩
        rw [hp']
        go_wp2_with fail
        refine (HRM.out w2).mono ?_
        rintro e w3 ⟨rfl, hb3⟩
        have HB3 := Lib.hid (bt HB.out hb3)
        clear hb3
        go_wp2_with fail
        rw [HX.out]
        refine (HT.out (l.drop k) w3).mono ?_
        rintro e w4 ⟨rfl, hb4⟩
        have HB4 := Lib.hid (bt HB3.out hb4)
        clear hb4
        go_wp2
        go_roundw
        case rel => exact ⟨trimW (l.drop k), f, rfl, by omega, by omega, HN, HB4.out⟩
        case measure => simp only [sLen, size_ba]; omega
/-- A token: its kind, its text, where it begins and ends. -/
structure Tk where
  k : Nat
  x : List UInt8
  a : Nat
  b : Nat
def nextF (s : List UInt8) (at' : Nat) : Option Tk := match passF (s.drop at') with
  | none => none
  | some left => if left = [] then some ⟨0, [], s.length, s.length⟩ else if (tokF left).2.2 = 0 then none else some ⟨(tokF left).1, (tokF left).2.1, s.length - left.length, s.length - left.length + (tokF left).2.2⟩
def NPost (r : Option Tk) (e : Ending) : Prop := match r with
  | some t => e = .returned (.tuple #[.agg #[.int .i64 (t.k : Nat), .string (ba' t.x), .int .i64 (t.a : Nat), .int .i64 (t.b : Nat)], .int .i64 0])
  | none => e = .returned (.tuple #[.agg #[.int .i64 0, .string ⟨#[]⟩, .int .i64 0, .int .i64 0], .int .i64 40])
theorem next_none (s : List UInt8) (at' : Nat) (w : World) (_hs : s.length ≤ 70000) (hat : at' ≤ s.length)
    (HP : Hid (∀ w1, Below w.heap.size w w1 → Calls Tryz.prog 23 #[.string (ba' (s.drop at'))] w1 fun e w' => e = .returned (.tuple #[.string ⟨#[]⟩, .bool false]) ∧ Below w1.heap.size w1 w')) :
    Calls Tryz.prog 13 #[.string (ba' s), .int .i64 at'] w fun e w' => e = .returned (.tuple #[.agg #[.int .i64 0, .string ⟨#[]⟩, .int .i64 0, .int .i64 0], .int .i64 40]) ∧ Below w.heap.size w w' := by
  have s1 : (ba' s).size = s.length := size_ba s
  have HEX : Hid ((ba' s).extract at' s.length = ba' (s.drop at')) := Lib.hid (by rw [← s1]; exact cut_drop s at')
  have ga : ¬ ((s.length : Int) < (at' : Int)) := by omega
  go_enter Tryz.func13, Tryz.ntmps13
  go_wp2_with fail
  rw [HEX.out]
  refine (HP.out _ (ba (Below.refl _ _))).mono ?_
  rintro e w1 ⟨rfl, hb1⟩
  have HB2 : Hid (Below w.heap.size w w1) := Lib.hid (bt (ba (Below.refl _ _)) hb1)
  have c2 := fun o => hb1.cell (p := ⟨w.heap.size, o, none⟩) (by simp)
  have f0 := fun o => hb1.frozen (p := ⟨w.heap.size, o, none⟩) (by simp)
  have z1 : w.heap.size < w1.heap.size := zz hb1 (by simp)
  clear hb1
  go_wp2
  refine bodyPost_ret (v := .tuple #[.agg #[.int .i64 0, .string ⟨#[]⟩, .int .i64 0, .int .i64 0], .int .i64 40]) ?_ rfl ⟨rfl, ?_⟩
  · have d0 : w1.cell? ⟨w.heap.size, 0, none⟩ = some (.int .i64 0) := (c2 0).trans (by simp)
    have d1 : w1.cell? ⟨w.heap.size, 1, none⟩ = some (.string ⟨#[]⟩) := (c2 1).trans (by simp)
    have d2 : w1.cell? ⟨w.heap.size, 2, none⟩ = some (.int .i64 0) := (c2 2).trans (by simp)
    have d3 : w1.cell? ⟨w.heap.size, 3, none⟩ = some (.int .i64 0) := (c2 3).trans (by simp)
    clear c2 f0
    simp [results, Tryz.results13, go_sem, *]
  · exact (((HB2.out.setCell (p := ⟨w.heap.size, 0, none⟩) (Nat.le_refl _) _).setCell (p := ⟨w.heap.size, 1, none⟩) (Nat.le_refl _) _).setCell (p := ⟨w.heap.size, 2, none⟩) (Nat.le_refl _) _).setCell (p := ⟨w.heap.size, 3, none⟩) (Nat.le_refl _) _
theorem readF_len (q : UInt8) : ∀ (f : Nat) (l acc m t : List UInt8), readF q f l acc = some (m, t) → t.length ≤ l.length := readF_left q
/-- A token is a part of its text. -/
theorem tokF_le (l : List UInt8) : (tokF l).2.2 ≤ l.length := by
  rcases l with _ | ⟨c, t⟩
  · exact Nat.le_refl _
  rw [tok_cons]
  split
  · unfold varF
    have := plainF_len t
    split
    · simp
    · simp only [List.length_cons]; omega
  · split
    · unfold quoF
      cases hr : readF c (t.length + 1) t [] with
      | none => simp
      | some p =>
        obtain ⟨m, left⟩ := p
        simp only
        split
        · simp
        · rename_i h0
          have h1 := readF_left c _ _ _ _ _ hr
          have h2 : 0 < left.length := by cases left with | nil => exact absurd rfl h0 | cons => simp
          simp only [List.length_cons]; omega
    · split
      · unfold numT
        split
        · simp
        · simp only
          unfold numK numH
          have h1 := digF_le (c :: t)
          cases hd : (c :: t).drop (digF (c :: t)) with
          | nil => exact h1
          | cons e r =>
            simp only
            have h2 := congrArg List.length hd
            rw [List.length_drop] at h2
            simp only [List.length_cons] at h2 ⊢
            split
            · have h3 := digF_le r
              simp only
              omega
            · simp only
              omega
      · split
        · simp only
          unfold qualF
          split
          · simp
          · have h1 := plainF_len (c :: t)
            cases hd : (c :: t).drop (plainF (c :: t)).length with
            | nil => exact h1
            | cons e r =>
              simp only
              have h2 := congrArg List.length hd
              rw [List.length_drop] at h2
              have h3 := plainF_len r
              split
              · rw [List.length_append]
                simp only [List.length_cons] at h1 h2 ⊢
                omega
              · exact h1
        · exact signF_le _
theorem nextF_any (s : List UInt8) (at' : Nat) (hs : s.length ≤ 70000) (hat : at' ≤ s.length) (w : World) (hE : Env w) : Calls Tryz.prog 13 #[.string (ba' s), .int .i64 (at' : Nat)] w fun e w' => NPost (nextF s at') e ∧ Below w.heap.size w w' := by
  have hP : ∀ w1, Below w.heap.size w w1 → Calls Tryz.prog 23 #[.string (ba' (s.drop at'))] w1 fun e w' => PPost (passF (s.drop at')) e ∧ Below w1.heap.size w1 w' := fun w1 _ => pass_any (s.drop at') (by rw [List.length_drop]; omega) w1
  unfold nextF
  cases hp : passF (s.drop at') with
  | none =>
    rw [hp] at hP
    exact (next_none s at' w hs hat (Lib.hid hP)).mono fun e w' h => h
  | some left =>
    rw [hp] at hP
    have hll := passF_le hp
    rw [List.length_drop] at hll
    by_cases h0 : left = []
    · subst h0
      simp only [if_true]
      exact (next_end s at' w hs hat (Lib.hid hP)).mono fun e w' h => h
    · simp only [if_neg h0]
      have hT : ∀ w1, Below w.heap.size w w1 → Calls Tryz.prog 24 #[.string (ba' left)] w1 fun e w' => TPost (tokF left) e ∧ Below w1.heap.size w1 w' := fun w1 h => tok_any left h0 (by omega) w1 (hE.below h)
      have hsz := tokF_le left
      obtain ⟨⟨k, x, n⟩, hkx⟩ : ∃ r, tokF left = r := ⟨_, rfl⟩
      rw [hkx] at hT hsz ⊢
      simp only at hsz ⊢
      by_cases hn : n = 0
      · subst hn
        rw [if_pos rfl]
        exact (next_bad s left x at' k w hs hat (by omega) h0 (Lib.hid hP) (Lib.hid hT)).mono fun e w' h => h
      · rw [if_neg hn]
        exact (next_tok s left x at' k n w hs hat (by omega) h0 (by omega) (by omega) (Lib.hid hP) (Lib.hid hT)).mono fun e w' h => h
end Go.Proofs.YtolkfhiominjbaaGreatDoor
namespace Go.Proofs.YtolkfhiominjbaaGreatDoor
open Go.RowKit Go.Lib
set_option maxRecDepth 100000
set_option maxHeartbeats 8000000
theorem nextF_b {s : List UInt8} {p : Nat} {t : Tk} (hp : p ≤ s.length) (h : nextF s p = some t) : p ≤ t.a ∧ t.a ≤ t.b ∧ t.b ≤ s.length ∧ (t.k ≠ 0 → t.a < t.b) := by
  unfold nextF at h
  cases hpf : passF (s.drop p) with
  | none => rw [hpf] at h; cases h
  | some left =>
    rw [hpf] at h
    have h1 := passF_le hpf
    rw [List.length_drop] at h1
    have h2 := tokF_le left
    simp only at h
    split at h
    · cases h; exact ⟨hp, Nat.le_refl _, Nat.le_refl _, fun h => absurd rfl h⟩
    · split at h
      · cases h
      · cases h
        rename_i h3 h4
        simp only
        exact ⟨by omega, by omega, by omega, fun _ => by omega⟩
def cellsK (L : List Tk) : List Value := L.flatMap fun t => [.int .i64 (t.k : Nat), .string (ba' t.x), .int .i64 (t.a : Nat), .int .i64 (t.b : Nat)]
def allGo : Nat → List UInt8 → Option Tk → List Tk → Option (List Tk)
  | 0, _, _, _ => none
  | _ + 1, _, none, _ => none
  | f + 1, s, some t, acc => if t.k = 0 then some acc else allGo f s (nextF s t.b) (acc ++ [t])
/-- All tokens of a text, if each is one. -/
def allF (s : List UInt8) : Option (List Tk) := allGo (s.length + 2) s (nextF s 0) []
def tkOf : Option Tk → Tk
  | some t => t
  | none => ⟨0, [], 0, 0⟩
def errOf : Option Tk → Int
  | some _ => 0
  | none => 40
theorem npost_eq (r : Option Tk) (e : Ending) (h : NPost r e) : e = .returned (.tuple #[.agg #[.int .i64 ((tkOf r).k : Nat), .string (ba' (tkOf r).x), .int .i64 ((tkOf r).a : Nat), .int .i64 ((tkOf r).b : Nat)], .int .i64 (errOf r)]) := by
  cases r with
  | none => exact h
  | some t => exact h
def APost (w : World) (r : Option (List Tk)) (e : Ending) (w' : World) : Prop := match r with
  | some L => ∃ A c base, e = .returned (.tuple #[.slice A L.length c, .int .i64 0]) ∧ w.heap.size ≤ base ∧ w'.ownsRow base 25 4 (.slice A L.length c) L.length (cellsK L)
  | none => e = .returned (.tuple #[.slice none 0 0, .int .i64 40])
theorem all_walk (s : List UInt8) (hs : s.length ≤ 65536) (w : World) (hE : Env w)
    (HR : Hid (Calls Tryz.prog 12 #[.string (ba' s), .int .i64 0] w fun e w' => e = .returned (.bool true) ∧ Below w.heap.size w w')) :
    Calls Tryz.prog 10 #[.string (ba' s)] w fun e w' => APost w (allF s) e w' ∧ Below w.heap.size w w' := by
  have HN : Hid (∀ (W : World) (p : Nat), p ≤ s.length → Below w.heap.size w W → Calls Tryz.prog 13 #[.string (ba' s), .int .i64 (p : Nat)] W fun e w' => e = .returned (.tuple #[.agg #[.int .i64 ((tkOf (nextF s p)).k : Nat), .string (ba' (tkOf (nextF s p)).x), .int .i64 ((tkOf (nextF s p)).a : Nat), .int .i64 ((tkOf (nextF s p)).b : Nat)], .int .i64 (errOf (nextF s p))]) ∧ Below W.heap.size W w') :=
    Lib.hid fun W p hp hW => (nextF_any s p (by omega) hp W (hE.below hW)).mono fun e w' h => ⟨npost_eq _ _ h.1, h.2⟩
  obtain ⟨i4, hi4, hz0, hz1, hz2⟩ := info_parts tok_info
  obtain ⟨R, hR⟩ : ∃ R, allF s = R := ⟨_, rfl⟩
  have HRR : Hid (allGo (s.length + 2) s (nextF s 0) [] = R) := Lib.hid hR
  rw [hR]
  clear hR hE
  obtain ⟨c0, hc0⟩ : ∃ c, nextF s 0 = c := ⟨_, rfl⟩
  have HC0 : Hid (∀ t, c0 = some t → t.b ≤ s.length) := Lib.hid fun t ht => (nextF_b (Nat.zero_le _) (hc0.trans ht)).2.2.1
  have HN0 := Lib.hid (HN.out w)
  rw [hc0] at HRR
  go_enter Tryz.func10, Tryz.ntmps10
  go_wp2_with fail
  refine HR.out.mono ?_
  rintro e w1 ⟨rfl, hb1⟩
  have HB1 := Lib.hid hb1
  have hN0 := HN.out w1 0 (Nat.zero_le _) hb1
  rw [hc0] at hN0
  have HN1 := Lib.hid hN0
  clear hb1 hN0 HR HN0 hc0
  go_wp2_with fail
  refine HN1.out.mono ?_
  rintro e w2 ⟨rfl, hb2⟩
  have HB2 := Lib.hid (bt HB1.out hb2)
  have HWZ : Hid (w.heap.size ≤ w2.heap.size) := Lib.hid HB2.out.size
  clear hb2 HN1
  go_wp2
  go_loopw [4, 6] (fun s4 s6 wx => ∃ (acc : List Tk) (cur : Option Tk) (f : Nat) (A : Option Addr) (c : Nat), s4 = .slice A acc.length c ∧ s6 = .int .i64 (errOf cur) ∧ acc.length + f ≤ s.length + 2 ∧ 1 ≤ f ∧ Hid (∀ t, cur = some t → t.b ≤ s.length ∧ (t.k ≠ 0 → s.length + 2 ≤ t.b + f)) ∧ Hid (allGo f s cur acc = R) ∧ Hid (wx.ownsRow (w2.heap.size + 1) 25 4 (.slice A acc.length c) acc.length (cellsK acc))
      ∧ Hid (wx.cell? ⟨w2.heap.size, 0, none⟩ = some (.int .i64 ((tkOf cur).k : Nat)) ∧ wx.cell? ⟨w2.heap.size, 1, none⟩ = some (.string (ba' (tkOf cur).x)) ∧ wx.cell? ⟨w2.heap.size, 2, none⟩ = some (.int .i64 ((tkOf cur).a : Nat)) ∧ wx.cell? ⟨w2.heap.size, 3, none⟩ = some (.int .i64 ((tkOf cur).b : Nat)) ∧ ∀ o, wx.frozen? ⟨w2.heap.size, o, none⟩ = false)
      ∧ w2.heap.size < wx.heap.size ∧ Hid (Below w.heap.size w wx)) (fun s4 _ _ => s.length + 3 - sliceN s4)
  case atStart =>
    refine ⟨[], c0, s.length + 2, none, 0, rfl, rfl, by simp, by omega, Lib.hid fun t ht => ⟨HC0.out t ht, fun _ => by omega⟩, HRR, Lib.hid (World.ownsRow_nil _ _ _ _), Lib.hid ⟨?_, ?_, ?_, ?_, ?_⟩, by simp, Lib.hid (ba HB2.out)⟩
    · simp
    · simp
    · simp
    · simp
    · intro o; simp
  case round =>
    obtain ⟨acc, cur, f, A, c, rfl, rfl, haf, hf1, HT, HG, HO, HC, hz, HBW⟩ := hrel
    obtain ⟨n, hn⟩ : ∃ n, acc.length = n := ⟨_, rfl⟩
    have HAN := Lib.hid hn
    rw [hn] at haf HO ⊢
    clear hn
    obtain ⟨c0, c1, c2, c3, c4⟩ := HC.out
    have HF := Lib.hid c4
    obtain ⟨f, rfl⟩ : ∃ f', f = f' + 1 := ⟨f - 1, by omega⟩
    cases cur with
    | none =>
      have HE2 : Hid (R = none) := Lib.hid HG.out.symm
      have e40 : errOf none = 40 := rfl
      rw [e40]
      clear HN HG HC c0 c1 c2 c3 c4
      go_wp2
      go_ret2
      exact ⟨by rw [HE2.out]; rfl, HBW.out⟩
    | some t =>
      have e00 : errOf (some t) = 0 := rfl
      rw [e00]
      obtain ⟨k, x, a, b⟩ := t
      change wr.cell? _ = some (.int .i64 (k : Nat)) at c0
      change wr.cell? _ = some (.string (ba' x)) at c1
      change wr.cell? _ = some (.int .i64 (a : Nat)) at c2
      change wr.cell? _ = some (.int .i64 (b : Nat)) at c3
      obtain ⟨hbl, hbf⟩ := HT.out _ rfl
      simp only at hbl hbf
      have hG := HG.out
      unfold allGo at hG
      simp only at hG
      by_cases hk : k = 0
      · subst hk
        rw [if_pos rfl] at hG
        have HE2 : Hid (R = some acc) := Lib.hid hG.symm
        clear HN HG HC c4 hG
        go_wp2
        go_ret2
        refine ⟨?_, HBW.out⟩
        rw [HE2.out]
        exact ⟨A, c, w2.heap.size + 1, by rw [HAN.out]; rfl, by have := HWZ.out; omega, by rw [HAN.out]; exact HO.out⟩
      · rw [if_neg hk] at hG
        have g1 : (((k : Nat) : Int) != 0) = true := by simpa using hk
        have g2 : decide (¬ ((k : Nat) : Int) = 0) = true := by simpa using hk
        have g3 : decide (¬ k = 0) = true := by simpa using hk
        have hnx := fun t' (h : nextF s b = some t') => nextF_b hbl h
        have HNB := Lib.hid (fun W h => HN.out W b hbl h)
        obtain ⟨cur', hcur⟩ : ∃ q, nextF s b = q := ⟨_, rfl⟩
        rw [hcur] at hG HNB
        have HGN := Lib.hid hG
        have HNX : Hid (∀ t', cur' = some t' → b ≤ t'.a ∧ t'.a ≤ t'.b ∧ t'.b ≤ s.length ∧ (t'.k ≠ 0 → t'.a < t'.b)) := Lib.hid fun t' h => hnx t' (hcur.trans h)
        have hbf' := hbf hk
        clear HG HC c4 hG hk hnx hcur HT
        go_wp2_with (at_builtin
                     go_must (refine wpList_append_any _ rfl (.tmp 22) (.tmp 24) _ rfl (w2.heap.size + 1) 25 i4 _ 4 40 Tryz.underlying32 hi4 hz0 hz1 hz2 rfl (by omega) (.slice A n c) n (cellsK acc) rfl (HO.out.alloc _) (wr.heap.size + 1) (some ⟨wr.heap.size, 0, none⟩) 1 1 [.int .i64 (k : Nat), .string (ba' x), .int .i64 (a : Nat), .int .i64 (b : Nat)] rfl ⟨rfl, fun _ => ⟨_, rfl, by simp, four_at _ _ rfl _ _ _ _ _⟩⟩ (by simp; exact ⟨rfl, rfl, rfl, rfl⟩) (by simp only [maxLen]; omega) (by omega) (by simp; omega) ?_))
        intro v4 w4 hown hg hat
        obtain ⟨A4, c4, rfl⟩ := own_slice hown
        have HBg : Hid (Below (w2.heap.size + 1) wr w4) := Lib.hid (Below.grown ((Below.refl _ _).alloc (by omega) _) hg (by simp; omega) (fun b hb => (own_lt HO.out hb).1))
        have HB4 : Hid (Below w.heap.size w w4) := Lib.hid (HBW.out.trans (HBg.out.mono (by have := HWZ.out; omega)))
        have HO4 : Hid (w4.ownsRow (w2.heap.size + 1) 25 4 (.slice A4 (n + 1) c4) (n + 1) (cellsK (acc ++ [⟨k, x, a, b⟩]))) := Lib.hid (by
          have e1 : cellsK (acc ++ [⟨k, x, a, b⟩]) = cellsK acc ++ [.int .i64 (k : Nat), .string (ba' x), .int .i64 (a : Nat), .int .i64 (b : Nat)] := by unfold cellsK; rw [List.flatMap_append]; simp
          rw [e1]
          exact hown)
        have d3 : w4.cell? ⟨w2.heap.size, 3, none⟩ = some (.int .i64 (b : Nat)) := (HBg.out.cell (p := ⟨w2.heap.size, 3, none⟩) (by simp)).trans c3
        have d0 := (HBg.out.cell (p := ⟨w2.heap.size, 0, none⟩) (by simp)).trans c0
        have d1 := (HBg.out.cell (p := ⟨w2.heap.size, 1, none⟩) (by simp)).trans c1
        have d2 := (HBg.out.cell (p := ⟨w2.heap.size, 2, none⟩) (by simp)).trans c2
        have f4 : ∀ o, w4.frozen? ⟨w2.heap.size, o, none⟩ = false := fun o => (HBg.out.frozen (p := ⟨w2.heap.size, o, none⟩) (by simp)).trans (HF.out o)
        have z4 : w2.heap.size < w4.heap.size := by have := HBg.out.size; omega
        have HF4 := Lib.hid f4
        clear hown hg hat c0 c1 c2 c3 f4 g1 g2 g3 HO
        go_wp2_with fail
        refine (HNB.out w4 HB4.out).mono ?_
        rintro e w5 ⟨rfl, hb5⟩
        have HB5 : Hid (Below w.heap.size w w5) := Lib.hid (bt HB4.out hb5)
        have HO5 := Lib.hid (own_below HO4.out hb5)
        have e0 : ∀ o, w5.frozen? ⟨w2.heap.size, o, none⟩ = false := fun o => (hb5.frozen (p := ⟨w2.heap.size, o, none⟩) z4).trans (HF4.out o)
        have z5 : w2.heap.size < w5.heap.size := Nat.lt_of_lt_of_le z4 hb5.size
        have k3 := (hb5.cell (p := ⟨w2.heap.size, 3, none⟩) z4).trans d3
        have k0 := (hb5.cell (p := ⟨w2.heap.size, 0, none⟩) z4).trans d0
        have k1 := (hb5.cell (p := ⟨w2.heap.size, 1, none⟩) z4).trans d1
        have k2 := (hb5.cell (p := ⟨w2.heap.size, 2, none⟩) z4).trans d2
        clear hb5 d0 d1 d2 d3 HF4
        go_wp2
        go_roundw
        case rel =>
          refine ⟨acc ++ [⟨k, x, a, b⟩], cur', f, A4, c4, by rw [List.length_append, HAN.out]; rfl, rfl, by rw [List.length_append, HAN.out]; simp; omega, by omega, Lib.hid fun t' h => ?_, HGN, Lib.hid (own_keep (by rw [List.length_append, HAN.out]; exact HO5.out) fun b hb => ?_), Lib.hid ⟨?_, ?_, ?_, ?_, ?_⟩, ?_, Lib.hid ?_⟩
          · have hh := HNX.out t' h
            exact ⟨hh.2.2.1, fun hk' => by have := hh.2.2.2 hk'; omega⟩
          · rw [Below.heap_setCell, Below.heap_setCell, Below.heap_setCell, Below.heap_setCell]
            all_goals (intro e; have := (own_lt HO5.out (by rw [List.length_append, HAN.out] at hb; exact hb)).1; simp only at e; omega)
          all_goals first
            | (simp [go_sem, k0, k1, k2, k3, e0]; done)
            | (intro o; simp [go_sem, k0, k1, k2, k3, e0]; done)
            | (simp; omega)
            | (have := HB5.out; repeat (with_reducible (first | assumption | (refine bs ?_ (by have := HWZ.out; simp; omega)))))
        case measure => simp only [sliceN]; omega
end Go.Proofs.YtolkfhiominjbaaGreatDoor
namespace Go.Proofs.YtolkfhiominjbaaGreatDoor
open Go.RowKit Go.Lib
set_option maxRecDepth 100000
set_option maxHeartbeats 8000000
/-- May a text be read from there? -/
def okT (s : List UInt8) (p : Int) : Bool := decide (s.length ≤ 65536) && decide (0 ≤ p) && decide (p ≤ s.length) && validX s
theorem okT_any (s : List UInt8) (hs : s.length ≤ maxLen) (p : Int) (w : World) (hT : tabs w) : Calls Tryz.prog 12 #[.string (ba' s), .int .i64 p] w fun e w' => e = .returned (.bool (okT s p)) ∧ Below w.heap.size w w' := by
  have hsz : (ba' s).size = s.length := size_ba s
  by_cases h1 : s.length ≤ 65536
  · by_cases h2 : 0 ≤ p
    · by_cases h3 : p ≤ s.length
      · have HV := Lib.hid (valid_any (some ⟨w.heap.size, 0, none⟩) 1 1 [ba' s] (w.alloc (.cells #[.string (ba' s)] 9)) rfl (by decide) (Utf8Tabs_below hT (ba (Below.refl _ _))) (one_str w (ba' s) (by rw [size_ba]; exact hs)))
        have e1 : [ba' s].all vS = validX s := by
          show (vS (ba' s) && true) = _
          rw [Bool.and_true]
          rfl
        rw [e1] at HV
        have HF : Hid (okT s p = validX s) := Lib.hid (by unfold okT; simp [h1, h2, h3])
        have g1 : decide ((s.length : Int) ≤ 65536) = true := by simp; omega
        have g1' : decide (s.length ≤ 65536) = true := by simpa using h1
        have g2 : decide ((0 : Int) ≤ p) = true := by simpa using h2
        have g3 : decide (p ≤ (s.length : Int)) = true := by simpa using h3
        obtain ⟨b, hb⟩ : ∃ b, validX s = b := ⟨_, rfl⟩
        rw [hb] at HV HF
        clear hT e1 hb
        go_enter Tryz.func12, Tryz.ntmps12
        go_wp2_with fail
        refine HV.out.mono ?_
        rintro e w1 ⟨rfl, hb1⟩
        have HB1 := Lib.hid (bt (ba (Below.refl _ _)) hb1)
        clear hb1
        go_wp2
        go_ret
        exact ⟨by rw [HF.out]; rfl, HB1.out⟩
      · have HF : Hid (okT s p = false) := Lib.hid (by unfold okT; simp [h1, h2, h3])
        have g1 : decide ((s.length : Int) ≤ 65536) = true := by simp; omega
        have g1' : decide (s.length ≤ 65536) = true := by simpa using h1
        have g2 : decide ((0 : Int) ≤ p) = true := by simpa using h2
        have g3 : decide (p ≤ (s.length : Int)) = false := by simpa using h3
        clear hT
        go_enter Tryz.func12, Tryz.ntmps12
        go_wp2
        go_ret
        exact ⟨by rw [HF.out]; rfl, Below.refl _ _⟩
    · have HF : Hid (okT s p = false) := Lib.hid (by unfold okT; simp [h1, h2])
      have g1 : decide ((s.length : Int) ≤ 65536) = true := by simp; omega
      have g1' : decide (s.length ≤ 65536) = true := by simpa using h1
      have g2 : decide ((0 : Int) ≤ p) = false := by simpa using h2
      clear hT
      go_enter Tryz.func12, Tryz.ntmps12
      go_wp2
      go_ret
      exact ⟨by rw [HF.out]; rfl, Below.refl _ _⟩
  · have HF : Hid (okT s p = false) := Lib.hid (by unfold okT; simp [h1])
    have g1 : decide ((s.length : Int) ≤ 65536) = false := by simp; omega
    have g1' : decide (s.length ≤ 65536) = false := by simpa using h1
    clear hT
    go_enter Tryz.func12, Tryz.ntmps12
    go_wp2
    go_ret
    exact ⟨by rw [HF.out]; rfl, Below.refl _ _⟩
/-- What All answers: the tokens, or nothing and an error. -/
def allR (s : List UInt8) : Option (List Tk) := if okT s 0 = true then allF s else none
def allE (s : List UInt8) : Int := if okT s 0 = true then (if (allF s).isSome = true then 0 else 40) else 2
def LPost (w : World) (r : Option (List Tk)) (k : Int) (e : Ending) (w' : World) : Prop := match r with
  | some L => ∃ A c base, e = .returned (.tuple #[.slice A L.length c, .int .i64 k]) ∧ w.heap.size ≤ base ∧ w'.ownsRow base 25 4 (.slice A L.length c) L.length (cellsK L)
  | none => e = .returned (.tuple #[.slice none 0 0, .int .i64 k])
theorem All_any (s : List UInt8) (hs : s.length ≤ maxLen) (w : World) (hE : Env w) : Calls Tryz.prog 10 #[.string (ba' s)] w fun e w' => LPost w (allR s) (allE s) e w' ∧ Below w.heap.size w w' := by
  have hR := okT_any s hs 0 w hE.1
  cases hok : okT s 0 with
  | true =>
    rw [hok] at hR
    have hl : s.length ≤ 65536 := by
      unfold okT at hok
      simp only [Bool.and_eq_true, decide_eq_true_eq] at hok
      exact hok.1.1.1
    refine (all_walk s hl w hE (Lib.hid hR)).mono fun e w' h => ⟨?_, h.2⟩
    unfold allR allE
    rw [if_pos hok, if_pos hok]
    have h1 := h.1
    cases hr : allF s with
    | none => rw [hr] at h1; exact h1
    | some L => rw [hr] at h1; exact h1
  | false =>
    have HF : Hid (allR s = none ∧ allE s = 2) := Lib.hid (by unfold allR allE; rw [if_neg (by rw [hok]; decide), if_neg (by rw [hok]; decide)]; exact ⟨rfl, rfl⟩)
    rw [hok] at hR
    have HR := Lib.hid hR
    clear hR hok hE
    go_enter Tryz.func10, Tryz.ntmps10
    go_wp2_with fail
    refine HR.out.mono ?_
    rintro e w1 ⟨rfl, hb1⟩
    have HB1 := Lib.hid hb1
    clear hb1
    go_wp2
    go_ret2
    exact ⟨by rw [HF.out.1, HF.out.2]; rfl, HB1.out⟩
end Go.Proofs.YtolkfhiominjbaaGreatDoor
