/- Where the first of some signs stands; blanks, comments. No condition beyond what the theorems state. -/
import Derived.Test.YtpdaldpaceolnaaGreatDoorValid
import Derived.Test.YtpdaldpaceolnaaGreatDoorReader
import Derived.WalkMore
import Derived.Handy
import Derived.Lib.IndexMore
import Derived.Lib.SplitLaws
namespace Go.Proofs.YtpdaldpaceolnaaGreatDoor
open Go.RowKit Go.Lib
theorem good_ok (l : List UInt8) (h : ¬ ((decodeL l).1 = 65533 ∧ (decodeL l).2 = 1)) : runeOk (decodeL l).1 := by
  rw [decodeL_N] at h ⊢
  unfold runeOk
  have := UInt8.toNat_lt (l.getD 0 0)
  rcases decodeN_shape l.length (l.getD 0 0).toNat (l.getD 1 0).toNat (l.getD 2 0).toNat (l.getD 3 0).toNat with ⟨c, e⟩ | ⟨a1, a2, a3, cv, e⟩ | ⟨a1, a2, a3, a4, cv, cs, e⟩ | ⟨a1, a2, a3, a4, a5, cv, cw, e⟩ | e
  · rw [e]; simp only; omega
  · rw [e]; simp only; omega
  · rw [e]; simp only; omega
  · rw [e]; simp only; omega
  · rw [e] at h; exact absurd ⟨rfl, rfl⟩ h
/-- the first step of a valid list, whatever follows -/
theorem step_append (a b : List UInt8) (hne : a ≠ []) (h : ¬ ((decodeL a).1 = 65533 ∧ (decodeL a).2 = 1)) : decodeL (a ++ b) = decodeL a ∧ (a ++ b).drop (decodeL a).2 = a.drop (decodeL a).2 ++ b := by
  have he : enc (decodeL a).1 = a.take (decodeL a).2 := encode_decode a hne h
  have hle := decodeL_le a hne
  have e : a ++ b = enc (decodeL a).1 ++ (a.drop (decodeL a).2 ++ b) := by rw [he, ← List.append_assoc, List.take_append_drop]
  have hlen : (enc (decodeL a).1).length = (decodeL a).2 := by rw [he, List.length_take]; omega
  constructor
  · rw [e, decode_enc _ (good_ok a h), hlen]
  · rw [List.drop_append_of_le_length hle]
theorem valid_append : ∀ (n : Nat) (a b : List UInt8), a.length ≤ n → validD a = true → validD (a ++ b) = validD b ∧ runes (a ++ b) = runes a ++ runes b
  | 0, a, b, h, _ => by
    have : a = [] := List.eq_nil_of_length_eq_zero (by omega)
    subst this; exact ⟨rfl, rfl⟩
  | n + 1, a, b, h, hv => by
    by_cases ha : a = []
    · subst ha; exact ⟨rfl, rfl⟩
    · obtain ⟨g1, g2⟩ := valid_cut a ha hv
      obtain ⟨s1, s2⟩ := step_append a b ha g1
      have hlt := drop_lt a ha
      obtain ⟨i1, i2⟩ := valid_append n (a.drop (decodeL a).2) b (by omega) g2
      have hne : a ++ b ≠ [] := by simp [ha]
      constructor
      · rw [validD_step _ hne, s1, if_neg g1, s2, i1]
      · rw [runes_step _ hne, s1, s2, i2, runes_step a ha]; rfl
theorem validD_append {a : List UInt8} (b : List UInt8) (h : validD a = true) : validD (a ++ b) = validD b := (valid_append _ a b (Nat.le_refl _) h).1
theorem runes_append {a : List UInt8} (b : List UInt8) (h : validD a = true) : runes (a ++ b) = runes a ++ runes b := (valid_append _ a b (Nat.le_refl _) h).2
theorem validX_append {a : List UInt8} (b : List UInt8) (h : validX a = true) : validX (a ++ b) = validX b := by
  unfold validX at h ⊢
  obtain ⟨h1, h2⟩ := Bool.and_eq_true_iff.1 h
  rw [validD_append b h1, runes_append b h1, List.all_append, h2]
  simp
theorem dec_low (l : List UInt8) (h : (l.getD 0 0).toNat < 128) : decodeL l = ((l.getD 0 0).toNat, 1) := by
  rw [decodeL_N]; exact decodeN_ascii _ _ _ _ _ h
theorem one_byte (b : UInt8) (h : b.toNat < 128) : runes [b] = [b.toNat] ∧ validD [b] = true := by
  have e := dec_low [b] (by simpa using h)
  constructor
  · rw [runes_step _ (by simp), e]
    simp [runes_nil]
  · rw [validD_step _ (by simp), e]
    simp only [List.getD_cons_zero]
    rw [if_neg (by omega)]; rfl
theorem validX_nil : validX [] = true := rfl
theorem validX_byte (b : UInt8) (h : b.toNat < 128) (hx : xmlN b.toNat = true) : validX [b] = true := by
  obtain ⟨h1, h2⟩ := one_byte b h
  unfold validX
  rw [h1, h2]; simp [hx]
/-- What one byte is written as. -/
def escB (q c : UInt8) : List UInt8 := if c = q then [q, q] else if c = 38 then [38, 35, 51, 56, 59] else [c]
def esc (q : UInt8) (l : List UInt8) : List UInt8 := l.flatMap (escB q)
theorem esc_cons (q c : UInt8) (l : List UInt8) : esc q (c :: l) = escB q c ++ esc q l := rfl
theorem esc_app (q : UInt8) (a b : List UInt8) : esc q (a ++ b) = esc q a ++ esc q b := List.flatMap_append
theorem esc_high (q : UInt8) (hq : q.toNat < 128) : ∀ l : List UInt8, (∀ x ∈ l, 128 ≤ x.toNat) → esc q l = l
  | [], _ => rfl
  | c :: l, h => by
    have hc := h c (.head _)
    have e : escB q c = [c] := by
      unfold escB
      rw [if_neg (fun e => by subst e; omega), if_neg (fun e => by subst e; simp at hc)]
    rw [esc_cons, e, esc_high q hq l fun x hx => h x (.tail _ hx)]
    rfl
theorem enc_high (r : Nat) (h : runeOk r) (hr : 127 < r) : ∀ x ∈ enc r, 128 ≤ x.toNat := by
  have hr2 : r ≤ 1114111 := by unfold runeOk at h; omega
  rw [encZ r h, if_neg (by omega)]
  intro x hx
  split at hx
  · simp only [List.mem_cons, List.not_mem_nil, or_false] at hx
    rcases hx with rfl | rfl <;> rw [u8N _ (by omega)] <;> omega
  · split at hx
    · simp only [List.mem_cons, List.not_mem_nil, or_false] at hx
      rcases hx with rfl | rfl | rfl <;> rw [u8N _ (by omega)] <;> omega
    · simp only [List.mem_cons, List.not_mem_nil, or_false] at hx
      rcases hx with rfl | rfl | rfl | rfl <;> rw [u8N _ (by omega)] <;> omega
theorem validX_enc (r : Nat) (h : runeOk r) (hx : xmlN r = true) : validX (enc r) = true := by
  have hd := decode_enc r h []
  rw [List.append_nil] at hd
  have hne : enc r ≠ [] := by
    rw [encZ r h]; split
    · simp
    · split
      · simp
      · split <;> simp
  have hb : ¬ (r = 65533 ∧ (enc r).length = 1) := by
    rintro ⟨rfl, h1⟩
    rw [encZ _ h] at h1
    simp at h1
  unfold validX
  rw [validD_step _ hne, runes_step _ hne, hd]
  simp only
  rw [if_neg hb, List.drop_length, runes_nil]
  simp [hx]
  rfl
theorem esc_valid (q : UInt8) (hq : q = 34 ∨ q = 39) : ∀ (n : Nat) (l : List UInt8), l.length ≤ n → validX l = true → validX (esc q l) = true
  | 0, l, h, _ => by
    have : l = [] := List.eq_nil_of_length_eq_zero (by omega)
    subst this; rfl
  | n + 1, l, h, hv => by
    by_cases hl : l = []
    · subst hl; rfl
    · have hv' := hv
      unfold validX at hv
      obtain ⟨h1, h2⟩ := Bool.and_eq_true_iff.1 hv
      obtain ⟨g1, g2⟩ := valid_cut l hl h1
      have hlt := drop_lt l hl
      rw [runes_step l hl, List.all_cons] at h2
      obtain ⟨x1, x2⟩ := Bool.and_eq_true_iff.1 h2
      have hrest : validX (l.drop (decodeL l).2) = true := by unfold validX; rw [g2, x2]; rfl
      have ih := esc_valid q hq n (l.drop (decodeL l).2) (by omega) hrest
      have ok := good_ok l g1
      have he : enc (decodeL l).1 = l.take (decodeL l).2 := encode_decode l hl g1
      have hlq : l = enc (decodeL l).1 ++ l.drop (decodeL l).2 := by rw [he, List.take_append_drop]
      rw [hlq, esc_app]
      by_cases hr : 127 < (decodeL l).1
      · have hq1 : q.toNat < 128 := by rcases hq with rfl | rfl <;> decide
        rw [esc_high q hq1 _ (enc_high _ ok hr), validX_append _ (validX_enc _ ok x1)]
        exact ih
      · obtain ⟨r, hre⟩ : ∃ r, (decodeL l).1 = r := ⟨_, rfl⟩
        rw [hre] at hr x1 ok ⊢
        have e1 : enc r = [r.toUInt8] := by rw [encZ r ok, if_pos (by omega)]
        have hn : (r.toUInt8).toNat = r := u8N r (by omega)
        have hv1 : validX (escB q r.toUInt8) = true := by
          unfold escB
          split
          · rcases hq with rfl | rfl <;> decide
          · split
            · decide
            · exact validX_byte _ (by omega) (by rw [hn]; exact x1)
        rw [e1, esc_cons]
        show validX ((escB q r.toUInt8 ++ []) ++ _) = true
        rw [List.append_nil, validX_append _ hv1]
        exact ih
end Go.Proofs.YtpdaldpaceolnaaGreatDoor
namespace Go.Proofs.YtpdaldpaceolnaaGreatDoor
open Go.RowKit Go.Lib
set_option maxRecDepth 100000
set_option maxHeartbeats 8000000
theorem enc_utf8 (r : Nat) (h : runeOk r) : (Utf8.encode (r : Int)).data.toList = enc r := by
  rw [encZ r h]
  have hv : Utf8.valid (r : Int) = true := by
    unfold runeOk at h
    simp [Utf8.valid]
    omega
  unfold Utf8.encode
  simp only [hv, if_true, Int.toNat_natCast]
  repeat' split
  all_goals first | rfl | (exfalso; omega)
theorem low_none (z : UInt8) (hz : 128 ≤ z.toNat) : ∀ l : List UInt8, (∀ x ∈ l, x.toNat < 128) → Lib.indexByte l z = -1
  | [], _ => rfl
  | b :: l, h => by
    have hb := h b (.head _)
    have hne : (b == z) = false := by
      rw [beq_eq_false_iff_ne]
      intro e
      rw [e] at hb
      omega
    unfold Lib.indexByte
    rw [hne, low_none z hz l fun x hx => h x (.tail _ hx)]
    rfl
theorem enc_sizes (r : Nat) (h : runeOk r) (h1 : 128 ≤ r) : 2 ≤ (enc r).length ∧ (enc r).length ≤ 4 := by
  rw [encZ r h, if_neg (by omega)]
  split
  · simp
  · split <;> simp
theorem valid_rune (r : Nat) (h : runeOk r) : Lib.validRune (r : Int) = true := by
  unfold runeOk at h
  unfold Lib.validRune
  simp
  omega
theorem idxRune_big (p : List UInt8) (hp : p.length = 2 ∨ p.length = 3) (ha : ∀ x ∈ p, x.toNat < 128) (r : Nat) (h1 : 128 ≤ r) (h2 : runeOk r) (h3 : r ≠ 65533) (w : World) : Calls Tryz.prog 114 #[.string (ba' p), .int .i32 (r : Int)] w fun e w' => e = .returned (.int .i64 (-1)) ∧ Below w.heap.size w w' := by
  have hr : r ≤ 1114111 := by unfold runeOk at h2; omega
  obtain ⟨S, hS⟩ : ∃ S, Utf8.encode (r : Int) = S := ⟨_, rfl⟩
  have hSl : S.data.toList = enc r := by rw [← hS]; exact enc_utf8 r h2
  obtain ⟨n, hn⟩ : ∃ n, (enc r).length = n := ⟨_, rfl⟩
  obtain ⟨n1, n2⟩ := enc_sizes r h2 h1
  rw [hn] at n1 n2
  have sS : S.size = n := by rw [← hn, ← hSl]; simp
  have sp : (ba' p).size = p.length := size_ba p
  have hlt : n - 1 < S.size := by omega
  obtain ⟨z, hz⟩ : ∃ z, S[n - 1]'hlt = z := ⟨_, rfl⟩
  have hz128 : 128 ≤ z.toNat := by
    refine enc_high r h2 (by omega) z ?_
    rw [← hSl, ← hz]
    exact Array.mem_toList_iff.2 (Array.getElem_mem _)
  have hVR := Lib.hid (Tryz.utf8_ValidRune (r : Int) w)
  rw [valid_rune r h2] at hVR
  obtain ⟨m, hm⟩ : ∃ m, p.length = m := ⟨_, rfl⟩
  rw [hm] at sp hp
  have hIB : Hid (∀ (k : Nat) (W : World), Calls Tryz.prog 117 #[.string (ba' (p.drop k)), .int .u8 (z.toNat : Int)] W fun e w' => e = .returned (.int .i64 (-1)) ∧ w' = W) := Lib.hid fun k W => by
    have h := Tryz.strings_IndexByte (ba' (p.drop k)) (z.toNat : Int) W
    have e : Lib.indexByte (ba' (p.drop k)).data.toList ((z.toNat : Int)).toNat.toUInt8 = -1 := by
      rw [show ((z.toNat : Int)).toNat.toUInt8 = z by simp]
      exact low_none z hz128 _ fun x hx => ha x (List.mem_of_mem_drop hx)
    rwa [e] at h
  have a1 : decide ((r : Int) < 128) = false := by simp; omega
  have a1' : decide (r < 128) = false := by simp; omega
  have a0 : decide ((0 : Int) ≤ (r : Int)) = true := by simp
  have a2 : ((r : Int) == 65533) = false := by rw [beq_eq_false_iff_ne]; omega
  have a2' : (r == 65533) = false := by rw [beq_eq_false_iff_ne]; exact h3
  obtain ⟨i, rfl⟩ : ∃ i, n = i + 1 := ⟨n - 1, by omega⟩
  rw [Nat.add_sub_cancel] at hlt
  have ez : S[i]'hlt = z := hz
  have hsub : ((i + 1 : Nat) : Int) - 1 = (i : Int) := by omega
  by_cases hc : i < m
  · have c1 : decide ((i : Int) < (m : Int)) = true := by simp; omega
    have c1' : decide (i < m) = true := by simpa using hc
    have hpl : i < (ba' p).size := by omega
    have hpl2 : i < p.length := by omega
    obtain ⟨x, hx⟩ : ∃ x, p[i]'hpl2 = x := ⟨_, rfl⟩
    have ex : (ba' p)[i]'hpl = x := hx
    have hx128 : x.toNat < 128 := by rw [← hx]; exact ha _ (List.getElem_mem _)
    have xz : ((x.toNat : Int) == (z.toNat : Int)) = false := by rw [beq_eq_false_iff_ne]; omega
    have xz' : ((x.toNat : Int) != (z.toNat : Int)) = true := by rw [bne, xz]; rfl
    have HX : Hid ((ba' p).extract (i + 1) m = ba' (p.drop (i + 1))) := Lib.hid (by rw [← sp, cut_drop])
    clear hn hSl hz hx ha h2 h3 hm hp
    go_enter Tryz.func114, Tryz.ntmps114
    go_wp2_with fail
    refine hVR.out.mono ?_
    rintro e w1 ⟨rfl, rfl⟩
    go_wp2_with fail
    go_step3
    go_wp2_with fail
    refine wp_loop_rounds 1 ?_
    rw [rounds_succ]
    go_wp2_with fail
    go_step3
    go_wp2_with fail
    go_quiet (fail)
    go_wp2_with fail
    have hX := HX.out
    clear HX
    go_quiet (exact (hIB.out (i + 1) _).mono fun e w'' h => ⟨h.1, _, h.2⟩)
    go_wp2
    repeat (first | rw [Exit.noGoto_ret] | simp only [Exit.inBlock] | simp only [Exit.then])
    go_ret
    first | exact ⟨rfl, Below.refl _ _⟩ | exact ⟨rfl, bd (Below.refl _ _)⟩ | exact ⟨rfl, bd (bd (Below.refl _ _))⟩
  · have c1 : decide ((i : Int) < (m : Int)) = false := by simp; omega
    have c1' : decide (i < m) = false := by simpa using hc
    clear hn hSl hz ha h2 h3 hm hp
    go_enter Tryz.func114, Tryz.ntmps114
    go_wp2_with fail
    refine hVR.out.mono ?_
    rintro e w1 ⟨rfl, rfl⟩
    go_wp2
    go_step3
    go_wp2
    refine wp_loop_rounds 1 ?_
    rw [rounds_succ]
    go_wp2
    repeat (first | rw [Exit.noGoto_ret] | simp only [Exit.inBlock] | simp only [Exit.then])
    go_ret
    exact ⟨rfl, Below.refl _ _⟩
end Go.Proofs.YtpdaldpaceolnaaGreatDoor
namespace Go.Proofs.YtpdaldpaceolnaaGreatDoor
open Go.RowKit Go.Lib
set_option maxRecDepth 100000
set_option maxHeartbeats 8000000
theorem idxRune_err (p : List UInt8) (ha : ∀ x ∈ p, x.toNat < 128) (w : World) : Calls Tryz.prog 114 #[.string (ba' p), .int .i32 65533] w fun e w' => e = .returned (.int .i64 (-1)) ∧ Below w.heap.size w w' := by
  have sp : (ba' p).size = p.length := size_ba p
  have HA := Lib.hid ha
  have HSP := Lib.hid sp
  clear ha sp
  go_enter Tryz.func114, Tryz.ntmps114
  go_wp2
  go_loopg [5, 6] (ba' p).size (fun g _ _ wx => ∃ i : Nat, i + g = (ba' p).size ∧ wx = w.iter (ba' p) i)
  case atStart => exact ⟨0, by omega, rfl⟩
  case round =>
    obtain ⟨i, hig, rfl⟩ := hrel
    cases gk with
    | zero =>
      obtain rfl : i = (ba' p).size := by omega
      have hnx := run_next_end (P := Tryz.prog) w (ba' p) (ba' p).size
      go_wp2
      repeat (first | rw [Exit.noGoto_ret] | simp only [Exit.inBlock])
      go_ret
      exact ⟨rfl, ba (Below.refl _ _)⟩
    | succ g =>
      have hi : i < (ba' p).size := by omega
      have hi2 : i < p.length := by have := HSP.out; omega
      obtain ⟨x, hx⟩ : ∃ x : UInt8, (ba' p)[i]'hi = x := ⟨_, rfl⟩
      have hx128 : x.toNat < 128 := HA.out x (by rw [← hx]; exact List.getElem_mem hi2)
      have hnx := fun ty => run_next_ascii (P := Tryz.prog) w (ba' p) i ty hi (by rw [hx]; exact hx128)
      rw [hx] at hnx
      have q : ((x.toNat : Int) == 65533) = false := by rw [beq_eq_false_iff_ne]; omega
      clear hx
      go_wp2
      go_roundg g
      case measure => omega
      case rel => exact ⟨i + 1, by omega, rfl⟩
theorem idxRune_hi (p : List UInt8) (hp : p.length = 2 ∨ p.length = 3) (ha : ∀ x ∈ p, x.toNat < 128) (r : Nat) (h1 : 128 ≤ r) (h2 : runeOk r) (w : World) : Calls Tryz.prog 114 #[.string (ba' p), .int .i32 (r : Int)] w fun e w' => e = .returned (.int .i64 (-1)) ∧ Below w.heap.size w w' := by
  by_cases h3 : r = 65533
  · subst h3
    exact idxRune_err p ha w
  · exact idxRune_big p hp ha r h1 h2 h3 w
/-- A place behind so many bytes. -/
def offX (pos : Nat) (k : Int) : Int := if k = -1 then -1 else (pos : Int) + k
theorem offX_zero (k : Int) : offX 0 k = k := by
  unfold offX
  split
  · rename_i h; exact h.symm
  · simp
theorem indexAny_skip (p : List UInt8) (ha : ∀ x ∈ p, x.toNat < 128) (rest : List UInt8) (pos : Nat) : ∀ l : List UInt8, (∀ x ∈ l, 128 ≤ x.toNat) → offX pos (Lib.indexAny (l ++ rest) p) = offX (pos + l.length) (Lib.indexAny rest p)
  | [], _ => rfl
  | b :: l, h => by
    have hb := h b (.head _)
    have hne : p.contains b = false := by
      rw [List.contains_eq_mem, decide_eq_false_iff_not]
      intro e
      have := ha b e
      omega
    have ih := indexAny_skip p ha rest (pos + 1) l fun x hx => h x (.tail _ hx)
    rw [show pos + (b :: l).length = pos + 1 + l.length by simp only [List.length_cons]; omega, ← ih]
    show offX pos (if p.contains b = true then 0 else if (Lib.indexAny (l ++ rest) p == -1) = true then -1 else Lib.indexAny (l ++ rest) p + 1) = _
    rw [hne, if_neg (by decide)]
    by_cases hk : Lib.indexAny (l ++ rest) p = -1
    · rw [hk]
      rfl
    · have hg := Lib.indexAny_ge p (l ++ rest)
      rw [if_neg (by simpa using hk)]
      unfold offX
      rw [if_neg (by omega), if_neg hk]
      omega
theorem indexAny_at (p : List UInt8) (x : UInt8) (rest : List UInt8) (pos : Nat) : offX pos (Lib.indexAny (x :: rest) p) = if p.contains x = true then (pos : Int) else offX (pos + 1) (Lib.indexAny rest p) := by
  show offX pos (if p.contains x = true then 0 else if (Lib.indexAny rest p == -1) = true then -1 else Lib.indexAny rest p + 1) = _
  by_cases hc : p.contains x = true
  · rw [if_pos hc, if_pos hc]
    unfold offX
    rw [if_neg (by decide)]
    simp
  · rw [if_neg hc, if_neg hc]
    have hg := Lib.indexAny_ge p rest
    by_cases hk : Lib.indexAny rest p = -1
    · rw [hk]
      rfl
    · rw [if_neg (by simpa using hk)]
      unfold offX
      rw [if_neg (by omega), if_neg hk]
      omega
theorem vx_cut (l : List UInt8) (hne : l ≠ []) (h : validX l = true) : ∃ r, runeOk r ∧ xmlN r = true ∧ l = enc r ++ l.drop (enc r).length ∧ decodeL l = (r, (enc r).length) ∧ validX (l.drop (enc r).length) = true := by
  unfold validX at h
  obtain ⟨h1, h2⟩ := Bool.and_eq_true_iff.1 h
  obtain ⟨g1, g2⟩ := valid_cut l hne h1
  have he : enc (decodeL l).1 = l.take (decodeL l).2 := encode_decode l hne g1
  have hle := decodeL_le l hne
  have hlen : (enc (decodeL l).1).length = (decodeL l).2 := by rw [he, List.length_take]; omega
  rw [runes_step l hne, List.all_cons, Bool.and_eq_true] at h2
  refine ⟨(decodeL l).1, good_ok l g1, h2.1, ?_, ?_, ?_⟩
  · rw [hlen, he, List.take_append_drop]
  · rw [hlen]
  · rw [hlen]
    unfold validX
    rw [g2, h2.2]
    rfl
theorem byte_contains (p : List UInt8) (x : UInt8) : decide (0 ≤ Lib.indexByte p x) = p.contains x := (Lib.contains_iff_indexByte p x).symm
theorem idxAny_short (s p : List UInt8) (hp : p.length = 2 ∨ p.length = 3) (ha : ∀ x ∈ p, x.toNat < 128) (hv : validX s = true) (h8 : s.length ≤ 8) (w : World) : Calls Tryz.prog 107 #[.string (ba' s), .string (ba' p)] w fun e w' => e = .returned (.int .i64 (Lib.indexAny s p)) ∧ Below w.heap.size w w' := by
  have ss : (ba' s).size = s.length := size_ba s
  have sp : (ba' p).size = p.length := size_ba p
  have hemp : (ba' p).toList.isEmpty = false := by rw [toList_ba]; cases p with | nil => simp at hp | cons => rfl
  obtain ⟨R, hR⟩ : ∃ R, Lib.indexAny s p = R := ⟨_, rfl⟩
  have HR : Hid (offX 0 (Lib.indexAny (s.drop 0) p) = R) := Lib.hid (by rw [offX_zero, List.drop_zero, hR])
  rw [hR]
  obtain ⟨m, hm⟩ : ∃ m, p.length = m := ⟨_, rfl⟩
  have HM := Lib.hid hm
  have HA := Lib.hid ha
  have HP := Lib.hid hp
  have HV := Lib.hid hv
  rw [hm] at sp hp
  have e1 : ((m : Int) == 1) = false := by rw [beq_eq_false_iff_ne]; omega
  have e1' : (m == 1) = false := by rw [beq_eq_false_iff_ne]; omega
  have hsu := Tryz.strings_shouldUseASCIISet (s.length : Int)
  have e8 : decide ((8 : Int) < (s.length : Int)) = false := by simp; omega
  rw [e8] at hsu
  have HSU := Lib.hid hsu
  clear hsu hm ha hv hR hp e8
  go_enter Tryz.func107, Tryz.ntmps107
  go_wp2_with fail
  refine (HSU.out _).mono ?_
  rintro e w1 ⟨rfl, rfl⟩
  go_wp2
  go_loopg [9, 10] (s.length + 1) (fun gf _ _ wx => ∃ pos, s.length + 1 ≤ pos + gf ∧ pos ≤ s.length ∧ Hid (validX (s.drop pos) = true) ∧ Hid (offX pos (Lib.indexAny (s.drop pos) p) = R) ∧ wx.heap[w1.heap.size]? = some (.stringIter (ba' s) pos) ∧ Hid (Below w1.heap.size w1 wx))
  case atStart => exact ⟨0, by omega, by omega, by rw [List.drop_zero]; exact HV, HR, World.iter_heap w1 (ba' s) 0, Lib.hid (ba (Below.refl _ _))⟩
  case round =>
    obtain ⟨pos, hfu, hpos, HVP, HG, hit, HBW⟩ := hrel
    obtain ⟨g', rfl⟩ : ∃ g', gk = g' + 1 := ⟨gk - 1, by omega⟩
    by_cases hlt : pos < s.length
    · have hsp : pos < (ba' s).size := by omega
      have hnx : ∀ ty, (Instr.next (.pointer (some ⟨w1.heap.size, 0, none⟩)) true ty).run Tryz.prog wr = _ := fun ty => Lib.run_next_any_at wr w1.heap.size (ba' s) pos ty hit hsp
      have hne : s.drop pos ≠ [] := by rw [ne_eq, List.drop_eq_nil_iff]; omega
      obtain ⟨r, hr, hx, e, hd, hv2⟩ := vx_cut _ hne HVP.out
      have hdec : Utf8.decode (ba' s) pos = (r, (enc r).length) := by
        rw [← decodeL_drop (ba' s) pos]
        exact hd
      rw [hdec] at hnx
      simp only at hnx
      obtain ⟨n, hn⟩ : ∃ n, (enc r).length = n := ⟨_, rfl⟩
      have hpn : pos + n ≤ s.length ∧ 0 < n := by
        have h := congrArg List.length e
        rw [List.length_append, List.length_drop, List.length_drop, hn] at h
        have h0 : 0 < (enc r).length := by
          rw [encZ r hr]
          repeat' split
          all_goals simp
        omega
      rw [hn] at hnx
      obtain ⟨W, hWd⟩ : ∃ W, wr.iterAt w1.heap.size (ba' s) (pos + n) = W := ⟨_, rfl⟩
      rw [hWd] at hnx
      have hWb : Below w1.heap.size w1 W := by rw [← hWd]; exact Lib.below_iterAt HBW.out (Nat.le_refl _) _ _
      have hWi : W.heap[w1.heap.size]? = some (.stringIter (ba' s) (pos + n)) := by rw [← hWd]; exact Lib.iterAt_heap wr _ _ pos _ hit
      have hWz : w1.heap.size < W.heap.size := (Array.getElem?_eq_some_iff.1 hWi).1
      have HWB := Lib.hid hWb
      have HWI := Lib.hid hWi
      have HV2 : Hid (validX (s.drop (pos + n)) = true) := Lib.hid (by rw [← List.drop_drop, ← hn]; exact hv2)
      by_cases hr128 : r < 128
      · have he : enc r = [r.toUInt8] := by rw [encZ r hr, if_pos (by omega)]
        have hn1 : n = 1 := by rw [← hn, he]; rfl
        have hrb : (r.toUInt8).toNat = r := u8N r (by omega)
        have hRA := Lib.hid (Tryz.strings_IndexRune_ascii (ba' p) (r : Int) W (by omega) (by omega))
        have hst := HG.out
        rw [e, he, List.singleton_append, indexAny_at] at hst
        rw [show ([r.toUInt8] : List UInt8).length = 1 from rfl, List.drop_drop] at hst
        have hcon := byte_contains p r.toUInt8
        obtain ⟨k, hk⟩ : ∃ k, Lib.indexByte p r.toUInt8 = k := ⟨_, rfl⟩
        have hRA2 : Hid (Calls Tryz.prog 114 #[.string (ba' p), .int .i32 (r : Int)] W fun e w' => e = .returned (.int .i64 k) ∧ w' = W) := Lib.hid (by
          have h := hRA.out
          rw [show Lib.indexByte (ba' p).data.toList ((r : Int)).toNat.toUInt8 = k by rw [Int.toNat_natCast]; exact hk] at h
          exact h)
        rw [hk] at hcon
        obtain ⟨c, hc⟩ : ∃ c, p.contains r.toUInt8 = c := ⟨_, rfl⟩
        rw [hc] at hcon hst
        subst hn1
        have HST := Lib.hid hst
        clear hst hc hk hRA hrb he hn hdec hd hx hr e hv2 hWd hWb hWi hit hne HVP HG
        cases c with
        | true =>
          have HN : Hid (R = (pos : Int)) := Lib.hid HST.out.symm
          have c1 : decide (k ≥ 0) = true := hcon
          clear HST
          go_wp2_with fail
          refine hRA2.out.mono ?_
          rintro e w3 ⟨rfl, rfl⟩
          go_wp2
          go_ret
          exact ⟨by rw [HN.out]; rfl, HWB.out⟩
        | false =>
          have HN : Hid (offX (pos + 1) (Lib.indexAny (s.drop (pos + 1)) p) = R) := Lib.hid HST.out
          have c1 : decide (k ≥ 0) = false := hcon
          clear HST
          go_wp2_with fail
          refine hRA2.out.mono ?_
          rintro e w3 ⟨rfl, rfl⟩
          go_wp2
          go_roundg g'
          case measure => omega
          case rel => exact ⟨pos + 1, by omega, by omega, HV2, HN, HWI.out, HWB⟩
      · have hst := HG.out
        rw [e, indexAny_skip p HA.out _ pos (enc r) (enc_high r hr (by omega)), hn, List.drop_drop] at hst
        have HN := Lib.hid hst
        have HRH := Lib.hid (idxRune_hi p HP.out HA.out r (by omega) hr W)
        clear hst hn hdec hd hx hr e hv2 hWd hWb hWi hit hne HVP HG
        go_wp2_with fail
        refine HRH.out.mono ?_
        rintro e w3 ⟨rfl, hb3⟩
        have HI3 : Hid (w3.heap[w1.heap.size]? = some (.stringIter (ba' s) (pos + n))) := Lib.hid ((hb3.block _ hWz).trans HWI.out)
        have HB3 := Lib.hid (bt HWB.out hb3)
        clear hb3 hWz
        go_wp2
        go_roundg g'
        case measure => omega
        case rel => exact ⟨pos + n, by omega, by omega, HV2, HN, HI3.out, HB3⟩
    · obtain rfl : pos = s.length := by omega
      have hnx : ∀ ty, (Instr.next (.pointer (some ⟨w1.heap.size, 0, none⟩)) true ty).run Tryz.prog wr = _ := fun ty => Lib.run_next_end_at wr w1.heap.size (ba' s) s.length ty hit (by omega)
      have HN : Hid (R = -1) := Lib.hid (by
        rw [← HG.out, List.drop_length]
        rfl)
      clear HVP HG
      go_wp2
      go_ret
      exact ⟨by rw [HN.out]; rfl, HBW.out⟩
end Go.Proofs.YtpdaldpaceolnaaGreatDoor
namespace Go.Proofs.YtpdaldpaceolnaaGreatDoor
open Go.RowKit Go.Lib
set_option maxRecDepth 100000
set_option maxHeartbeats 8000000
theorem idxAny_any (s p : List UInt8) (hs : s.length ≤ 3000000) (hp : p.length = 2 ∨ p.length = 3) (ha : ∀ x ∈ p, x.toNat < 128) (hv : validX s = true) (w : World) : Calls Tryz.prog 107 #[.string (ba' s), .string (ba' p)] w fun e w' => e = .returned (.int .i64 (Lib.indexAny s p)) ∧ Below w.heap.size w w' := by
  by_cases h8 : s.length ≤ 8
  · exact idxAny_short s p hp ha hv h8 w
  · have h116 : (Tryz.prog.info? 117).map (fun i => (i.zero, i.size)) = some (some (.agg (Array.replicate 256 (.bool false))), 256) := by kernel_rfl
    refine (Tryz.strings_IndexAny_long (zero_of_info h116).1 (ba' s) (ba' p) w (by rw [size_ba]; omega) (by rw [size_ba]; omega) (by rw [size_ba]; omega) (by rw [size_ba]; omega) (fun j b hb => ha b (List.mem_of_getElem? hb))).mono ?_
    rintro e w' ⟨he, hw⟩
    refine ⟨he, ?_⟩
    rw [hw]
    exact ba (ba (Below.refl _ _))
theorem indexAny_le (p : List UInt8) : ∀ l : List UInt8, Lib.indexAny l p ≤ l.length
  | [] => by show (-1 : Int) ≤ 0; omega
  | b :: l => by
    show (if p.contains b = true then (0 : Int) else if (Lib.indexAny l p == -1) = true then -1 else Lib.indexAny l p + 1) ≤ ((b :: l).length : Nat)
    have := indexAny_le p l
    simp only [List.length_cons]
    split
    · omega
    · split <;> omega
theorem characters_any (b : Nat) (l p : List UInt8) (w : World) (h : At w b l) (hl : l.length ≤ 3000000) (hp : p.length = 2 ∨ p.length = 3) (ha : ∀ x ∈ p, x.toNat < 128) (hv : validX l = true) : Calls Tryz.prog 93 #[.pointer (some ⟨b, 0, none⟩), .string (ba' p)] w fun e w' => e = .returned (.string (ba' (cutX l (Lib.indexAny l p)).1)) ∧ Mv b (cutX l (Lib.indexAny l p)).2 w w' := by
  have HA := Lib.hid h
  obtain ⟨h0, h1, h2⟩ := h
  have HI := Lib.hid (idxAny_any l p hl hp ha hv w)
  have hle := indexAny_le p l
  obtain ⟨k, hk⟩ : ∃ k, Lib.indexAny l p = k := ⟨_, rfl⟩
  rw [hk] at HI hle ⊢
  have HC : Hid (∀ W, At W b l → Calls Tryz.prog 69 #[.pointer (some ⟨b, 0, none⟩), .int .i64 k] W fun e w' => e = .returned (.string (ba' (cutX l k).1)) ∧ Mv b (cutX l k).2 W w') := Lib.hid fun W hW => cut_any b l k W hW hl hle
  clear hk hle hp ha hv
  go_enter Tryz.func93, Tryz.ntmps93
  go_wp2_with fail
  refine HI.out.mono ?_
  rintro e w1 ⟨rfl, hb⟩
  have HA1 := Lib.hid (HA.out.below hb)
  have HM1 := Lib.hid (Mv.of_below HA.out hb)
  clear hb h0 h1
  go_wp2_with fail
  refine (HC.out _ HA1.out).mono ?_
  rintro e w2 ⟨rfl, hm⟩
  have HM2 := Lib.hid (HM1.out.trans hm)
  clear hm
  go_wp2
  go_ret
  exact ⟨rfl, HM2.out⟩
theorem replace_le (s o n : List UInt8) (hs : s.length ≤ 3000000) (ho : o.length = 1 ∨ o.length = 2) (hn : n.length = 1) (v : Int) (w : World) (hm : w.cell? ⟨2, 0, none⟩ = some (.int .i64 v)) :
    Calls Tryz.prog 29 #[.string (ba' s), .string (ba' o), .string (ba' n)] w fun e w' => e = .returned (.string (ba' (Lib.replaceAll s o n))) ∧ Below w.heap.size w w' := by
  have hc := Lib.countB_le (ba' o) (by rw [size_ba]; omega) (ba' s).size (ba' s) (Nat.le_refl _)
  rw [size_ba] at hc
  exact Tryz.strings_ReplaceAll (ba' s) (ba' o) (ba' n) v w (by rw [size_ba]; omega) hm (by rw [size_ba]; omega) (by rw [size_ba, size_ba, hn]; omega)
theorem replaceK_len (o n : List UInt8) (h : n.length ≤ o.length) : ∀ (k : Nat) (s : List UInt8), (Lib.replaceK o n k s).length ≤ s.length
  | 0, s => by rw [Lib.replaceK]; exact Nat.le_refl _
  | k + 1, s => by
    rw [Lib.replaceK]
    split
    · exact Nat.le_refl _
    · have ih := replaceK_len o n h k (s.drop ((Lib.index s o).toNat + o.length))
      rename_i hi
      rw [List.length_append, List.length_append, List.length_take]
      rw [List.length_drop] at ih
      have hle : (Lib.index s o).toNat + o.length ≤ s.length := by
        have hne : Lib.index s o ≠ -1 := by simpa using hi
        have h0 : 0 ≤ Lib.index s o := by
          rcases Lib.index_spec s o with h | ⟨i, h, _⟩
          · exact absurd h.1 hne
          · omega
        have := Lib.index_room s o h0
        omega
      omega
theorem replaceAll_len (s o n : List UInt8) (h : n.length ≤ o.length) : (Lib.replaceAll s o n).length ≤ s.length := by
  unfold Lib.replaceAll Lib.replace
  split
  · exact Nat.le_refl _
  · exact replaceK_len o n h _ s
theorem blanks_any (s : List UInt8) (hs : s.length ≤ 3000000) (v : Int) (w : World) (hm : w.cell? ⟨2, 0, none⟩ = some (.int .i64 v)) :
    Calls Tryz.prog 92 #[.string (ba' s)] w fun e w' => e = .returned (.string (ba' (blanksL s))) ∧ Below w.heap.size w w' := by
  have H1 := Lib.hid (replace_le s [9] [32] hs (.inl rfl) rfl v w hm)
  have hl := replaceAll_len s [9] [32] (by decide)
  have H2 : Hid (∀ W, Below w.heap.size w W → Calls Tryz.prog 29 #[.string (ba' (Lib.replaceAll s [9] [32])), .string ⟨#[10]⟩, .string ⟨#[32]⟩] W fun e w' => e = .returned (.string (ba' (blanksL s))) ∧ Below W.heap.size W w') := Lib.hid fun W hW =>
    replace_le _ [10] [32] (by omega) (.inl rfl) rfl v W ((hW.cell (p := ⟨2, 0, none⟩) (World.block_lt_of_cell? w _ hm)).trans hm)
  have H3 : Hid (Calls Tryz.prog 29 #[.string (ba' s), .string ⟨#[9]⟩, .string ⟨#[32]⟩] w fun e w' => e = .returned (.string (ba' (Lib.replaceAll s [9] [32]))) ∧ Below w.heap.size w w') := H1
  clear H1 hl hm
  go_enter Tryz.func92, Tryz.ntmps92
  go_wp2_with fail
  refine H3.out.mono ?_
  rintro e w1 ⟨rfl, hb⟩
  have HB1 := Lib.hid hb
  clear hb
  go_wp2_with fail
  refine (H2.out _ HB1.out).mono ?_
  rintro e w2 ⟨rfl, hb⟩
  have HB2 := Lib.hid (bt HB1.out hb)
  clear hb
  go_wp2
  go_ret
  exact ⟨rfl, HB2.out⟩
end Go.Proofs.YtpdaldpaceolnaaGreatDoor
namespace Go.Proofs.YtpdaldpaceolnaaGreatDoor
open Go.RowKit Go.Lib
set_option maxRecDepth 100000
set_option maxHeartbeats 8000000
theorem At.low {w w' : World} {b B : Nat} {l : List UInt8} (h : At w b l) (hb : Below B w w') (hB : b < B) : At w' b l :=
  ⟨(hb.cell (p := ⟨b, 0, none⟩) hB).trans h.1, (hb.frozen (p := ⟨b, 0, none⟩) hB).trans h.2.1, Nat.lt_of_lt_of_le h.2.2 hb.size⟩
/-- Behind the reader's moves, something that lies in new memory turns. -/
theorem Mv.high {w w1 w2 : World} {b B : Nat} {l : List UInt8} (h : Mv b l w w1) (hb : Below B w1 w2) (hB : w.heap.size ≤ B) (hbB : b < B) : Mv b l w w2 :=
  ⟨h.low.trans (hb.mono (by omega)), fun k hk hne => (hb.block k (by omega)).trans (h.block k hk hne), Nat.le_trans h.grow hb.size, h.here.low hb hbB⟩
theorem builder_mv {B b rb : Nat} {bs : List Value} {w w' : World} {l : List UInt8} (h : Lib.IsBuilder 99 5 B b bs w) (hm : Mv rb l w w') (hr : rb < B) : Lib.IsBuilder 99 5 B b bs w' := by
  have one : ∀ p, Lib.BuilderAt 99 5 B b p bs w → Lib.BuilderAt 99 5 B b p bs w' := fun p ⟨h1, v, h2, h3, h4⟩ =>
    ⟨h1, v, (hm.block b ((Array.getElem?_eq_some_iff.1 h2).1) (by omega)).trans h2, hm.own h3 hr, h4⟩
  exact h.elim (fun h => .inl (one _ h)) (fun h => .inr (one _ h))
def TreeV (k : Int) (n v : List UInt8) : Value := .agg #[.int .i64 k, .string (ba' n), .string (ba' v), .slice none 0 0, .slice none 0 0]
def CmPost (b : Nat) (l : List UInt8) (w : World) (e : Ending) (w' : World) : Prop := match commentL l with
  | some (v, r) => e = .returned (TreeV 5 [] v) ∧ Mv b r w w'
  | none => e = GU 61 ∧ ∃ l', Mv b l' w w'
theorem comment_any (b : Nat) (l : List UInt8) (w : World) (h : At w b l) (hl : l.length ≤ 3000000) (v : Int) (hm : w.cell? ⟨2, 0, none⟩ = some (.int .i64 v)) (_hb2 : 3 ≤ b) : Calls Tryz.prog 48 #[.pointer (some ⟨b, 0, none⟩)] w (CmPost b l w) := by
  have HA := Lib.hid h
  have hz := h.2.2
  obtain ⟨W0, hW0⟩ : ∃ W0, w.alloc (.cells #[.int .i64 0, .string ⟨#[]⟩, .string ⟨#[]⟩, .slice none 0 0, .slice none 0 0] 27) = W0 := ⟨_, rfl⟩
  have hb0 : Below w.heap.size w W0 := by rw [← hW0]; exact ba (Below.refl _ _)
  have HA0 := Lib.hid (h.below hb0)
  have HM0 := Lib.hid (Mv.of_below h hb0)
  have hup := upTo_any b l [45, 45] W0 HA0.out hl v ((hb0.cell (p := ⟨2, 0, none⟩) (World.block_lt_of_cell? w _ hm)).trans hm)
  unfold UpPost at hup
  unfold CmPost
  have c0 : ∀ o, W0.cell? ⟨w.heap.size, o, none⟩ = (w.alloc (.cells #[.int .i64 0, .string ⟨#[]⟩, .string ⟨#[]⟩, .slice none 0 0, .slice none 0 0] 27)).cell? ⟨w.heap.size, o, none⟩ := fun o => by rw [hW0]
  have f0 : ∀ o, W0.frozen? ⟨w.heap.size, o, none⟩ = false := fun o => by rw [← hW0]; simp
  have z0 : w.heap.size < W0.heap.size := by rw [← hW0]; simp
  clear h hm
  cases hc : upL [45, 45] l with
  | none =>
    have hcl : commentL l = none := by unfold commentL; rw [hc]
    rw [hcl]
    rw [hc] at hup
    have HU : Hid (Calls Tryz.prog 68 #[.pointer (some ⟨b, 0, none⟩), .string ⟨#[45, 45]⟩] W0 fun e w' => e = GU 61 ∧ Mv b l W0 w') := Lib.hid hup
    clear hup hc hcl
    go_enter Tryz.func48, Tryz.ntmps48
    go_wp2_with fail
    refine HU.out.mono ?_
    rintro e w1 ⟨rfl, hm⟩
    have HM1 := Lib.hid (HM0.out.trans hm)
    clear hm
    go_wp2
    exact ⟨rfl, rfl, _, HM1.out⟩
  | some x =>
    obtain ⟨a, r⟩ := x
    rw [hc] at hup
    have HU : Hid (Calls Tryz.prog 68 #[.pointer (some ⟨b, 0, none⟩), .string ⟨#[45, 45]⟩] W0 fun e w' => e = .returned (.string (ba' a)) ∧ Mv b r W0 w') := Lib.hid hup
    cases hs : stripX [62] r with
    | none =>
      have hcl : commentL l = none := by unfold commentL; rw [hc]; simp only; rw [hs]
      rw [hcl]
      clear hup hc hcl
      go_enter Tryz.func48, Tryz.ntmps48
      go_wp2_with fail
      refine HU.out.mono ?_
      rintro e w1 ⟨rfl, hm⟩
      have HA1 := Lib.hid hm.here
      have HM1 := Lib.hid (HM0.out.trans hm)
      clear hm
      go_wp2_with fail
      refine (need_any b r [62] w1 HA1.out).mono ?_
      intro e w2 hn
      unfold NdPost at hn
      rw [hs] at hn
      obtain ⟨rfl, hm⟩ := hn
      have HM2 := Lib.hid (HM1.out.trans hm)
      clear hm
      go_wp2
      exact ⟨rfl, rfl, _, HM2.out⟩
    | some r2 =>
      have hcl : commentL l = some (a, r2) := by unfold commentL; rw [hc]; simp only; rw [hs]
      rw [hcl]
      clear hup hc hcl
      go_enter Tryz.func48, Tryz.ntmps48
      go_wp2_with fail
      refine HU.out.mono ?_
      rintro e w1 ⟨rfl, hm⟩
      have HA1 := Lib.hid hm.here
      have HM1 := Lib.hid (HM0.out.trans hm)
      have c1 : ∀ o, w1.cell? ⟨w.heap.size, o, none⟩ = W0.cell? ⟨w.heap.size, o, none⟩ := fun o => hm.cell (p := ⟨w.heap.size, o, none⟩) z0 (by show w.heap.size ≠ b; omega)
      have f1 : ∀ o, w1.frozen? ⟨w.heap.size, o, none⟩ = false := fun o => (hm.frozen (p := ⟨w.heap.size, o, none⟩) z0 (by show w.heap.size ≠ b; omega)).trans (f0 o)
      have z1 : w.heap.size < w1.heap.size := Nat.lt_of_lt_of_le z0 hm.grow
      have HC1 := Lib.hid c1
      have HF1 := Lib.hid f1
      clear hm c1 f1
      go_wp2_with fail
      refine (need_any b r [62] w1 HA1.out).mono ?_
      intro e w2 hn
      unfold NdPost at hn
      rw [hs] at hn
      obtain ⟨rfl, hm⟩ := hn
      have HM2 := Lib.hid (HM1.out.trans hm)
      have c2 : ∀ o, w2.cell? ⟨w.heap.size, o, none⟩ = (w.alloc (.cells #[.int .i64 0, .string ⟨#[]⟩, .string ⟨#[]⟩, .slice none 0 0, .slice none 0 0] 27)).cell? ⟨w.heap.size, o, none⟩ := fun o => (hm.cell (p := ⟨w.heap.size, o, none⟩) z1 (by show w.heap.size ≠ b; omega)).trans ((HC1.out o).trans (c0 o))
      have f2 : ∀ o, w2.frozen? ⟨w.heap.size, o, none⟩ = false := fun o => (hm.frozen (p := ⟨w.heap.size, o, none⟩) z1 (by show w.heap.size ≠ b; omega)).trans (HF1.out o)
      have z2 : w.heap.size < w2.heap.size := Nat.lt_of_lt_of_le z1 hm.grow
      have d0 : w2.cell? ⟨w.heap.size, 0, none⟩ = some (.int .i64 0) := (c2 0).trans (by simp)
      have d1 : w2.cell? ⟨w.heap.size, 1, none⟩ = some (.string ⟨#[]⟩) := (c2 1).trans (by simp)
      have d2 : w2.cell? ⟨w.heap.size, 2, none⟩ = some (.string ⟨#[]⟩) := (c2 2).trans (by simp)
      have d3 : w2.cell? ⟨w.heap.size, 3, none⟩ = some (.slice none 0 0) := (c2 3).trans (by simp)
      have d4 : w2.cell? ⟨w.heap.size, 4, none⟩ = some (.slice none 0 0) := (c2 4).trans (by simp)
      clear hm c2 c0 f0
      go_wp2
      refine bodyPost_ret (v := TreeV 5 [] a) ?_ rfl ⟨rfl, ?_⟩
      · unfold TreeV
        simp [results, Tryz.results48, go_sem, *]
        rfl
      · refine HM2.out.high (B := w.heap.size) ?_ (Nat.le_refl _) hz
        have hbz := Below.refl w.heap.size w2
        repeat (with_reducible (first | assumption | (refine Below.setCell ?_ (by simp) _)))
end Go.Proofs.YtpdaldpaceolnaaGreatDoor
