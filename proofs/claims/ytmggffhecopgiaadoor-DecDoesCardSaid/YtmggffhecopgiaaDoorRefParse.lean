/- What the reference reads. No condition beyond what the theorems state. -/
import Derived.Test.YtmggffhecopgiaaDoorParseMath
import Derived.Test.YtmggffhecopgiaaDoorRoundsEnd
namespace Go.Proofs
open Go.Shelf Go.RowKit Go.Proofs.Wide Go.Proofs.Dig
def refT (neg : Bool) (t : List UInt8) : Int × Int × Int := match scanL t with
  | none => (0, 0, 12)
  | some (D, p) => if D = [] then (0, 0, 12) else
    let f := fitZ (sg neg (val D.reverse)) (if 0 ≤ p then D.length - p.toNat else 0)
    (outN f, outK f, outE f)
noncomputable def pbody : Code := Tryd.f15.body.getD .skip
def ScI (t : List UInt8) (w0 : World) (s6 s7 s8 : Value) (wx : World) : Prop := ∃ (i : Nat) (D : List Int) (p : Int) (A : Option Addr) (c : Nat), s8 = .int .i64 i ∧ i ≤ t.length ∧ s6 = .slice A D.length c ∧ s7 = .int .i64 p ∧
  Hid ((t.take i).foldl stepS (some ([], -1)) = some (D, p)) ∧ D.length ≤ i ∧ -1 ≤ p ∧ p ≤ D.length ∧ isDig D ∧ wx.ownsRow w0.heap.size 3 1 (.slice A D.length c) D.length (cellsD D) ∧ Below w0.heap.size w0 wx
def LwI (D : List Int) (_w0 wq : World) (A : Option Addr) (_c : Nat) (s10 s11 : Value) (wx : World) : Prop := ∃ (m : Nat) (B : Option Addr) (cb : Nat), s11 = .int .i64 ((m : Int) - 1) ∧ m ≤ D.length ∧ s10 = .slice B (D.length - m) cb ∧
  wx.ownsRow wq.heap.size 3 1 (.slice B (D.length - m) cb) (D.length - m) (cellsD (D.drop m).reverse) ∧ Rd wx A D ∧ Below wq.heap.size wq wx
theorem row_snoc {w : World} {B : Nat} {A : Option Addr} {c : Nat} {D : List Int} {d : Int} (h : w.ownsRow B 3 1 (.slice A (D.length + 1) c) (D.length + 1) (cellsD D ++ [.int .i64 d])) :
    w.ownsRow B 3 1 (.slice A (D ++ [d]).length c) (D ++ [d]).length (cellsD (D ++ [d])) := by
  rw [cellsD_snoc, List.length_append]; exact h
set_option maxRecDepth 100000 in
set_option maxHeartbeats 8000000 in
theorem refParse_low (D : List Int) (hDl : D.length ≤ 3000) (hdg : isDig D) (A : Option Addr) (c : Nat) (neg : Bool) (sc : Nat) (hsc : sc ≤ 3000) (hDc : D.length ≤ c) (hc9 : c ≤ 9223372036854775807) (pn pk pe : Int)
    (hp : (pn, pk, pe) = (outN (fitZ (sg neg (val D.reverse)) sc), outK (fitZ (sg neg (val D.reverse)) sc), outE (fitZ (sg neg (val D.reverse)) sc))) (c0 c1 c2 c3 c4 c7 c8 c10 c11 c12 c13 c14 c15 c16 c17 c18 c19 c20 c21 c22 c23 c24 c25 c26 c27 c28 c29 c30 c31 c32 c33 c34 c35 c36 c37 c38 c39 c40 c41 c42 c43 c44 c45 c46 c47 c48 c49 c50 c51 c52 c53 c54 c55 c56 c57 c58 c59 c60 c61 c62 c63 c64 c65 c66 c67 c68 c69 c70 c71 c72 c73 c74 c75 c76 c77 c78 c79 c80 c81 c82 c83 c84 c85 c86 c87 c88 c89 c90 c91 c92 c93 c94 c95 c96 c97 c98 c99 c100 c101 c102 : Value) (w0 W : World) (hrd : Rd W A D) (hb : Below w0.heap.size w0 W)
    (K : Act → World → Prop) (hK : ∀ a w, Code.wp Tryd.prog (skipn 10 pbody) (bodyPost Tryd.prog Tryd.f15 fun e w' => e = .returned (.tuple #[.int .i64 pn, .int .i64 pk, .int .i64 pe]) ∧ Below w0.heap.size w0 w') a w → K a w) :
    Code.wp Tryd.prog ((Tryd.f15.body.bind (regionOf 20)).getD .skip) (Exit.then K (bodyPost Tryd.prog Tryd.f15 fun e w' => e = .returned (.tuple #[.int .i64 pn, .int .i64 pk, .int .i64 pe]) ∧ Below w0.heap.size w0 w')) { tmps := #[c0, c1, c2, c3, c4, .bool neg, .slice A D.length c, c7, c8, .int .i64 (sc : Nat), c10, c11, c12, c13, c14, c15, c16, c17, c18, c19, c20, c21, c22, c23, c24, c25, c26, c27, c28, c29, c30, c31, c32, c33, c34, c35, c36, c37, c38, c39, c40, c41, c42, c43, c44, c45, c46, c47, c48, c49, c50, c51, c52, c53, c54, c55, c56, c57, c58, c59, c60, c61, c62, c63, c64, c65, c66, c67, c68, c69, c70, c71, c72, c73, c74, c75, c76, c77, c78, c79, c80, c81, c82, c83, c84, c85, c86, c87, c88, c89, c90, c91, c92, c93, c94, c95, c96, c97, c98, c99, c100, c101, c102], defers := [] } W := by
  obtain ⟨i0, hi, hz0, hz1, hz2⟩ := info_parts int_info
  have HP := Lib.hid hp; have HDG := Lib.hid hdg; have HRD := Lib.hid hrd
  have wD : IntKind.i64.wrap ((D.length : Int) - 1) = (D.length : Int) - 1 := by rw [IntKind.wrap_i64]; omega
  clear hp hdg hrd
  conv => arg 2; whnf
  conv at hK => enter [a, w, 1, 2]; whnf
  go_wp2_with fail
  go_loopw [10, 11] (fun s10 s11 wx => LwI D w0 W A c s10 s11 wx) (fun _ s11 _ => (intOf s11 + 1).toNat)
  case atStart => exact ⟨D.length, none, 0, rfl, Nat.le_refl _, by rw [Nat.sub_self], ⟨by simp [cellsD], .inl ⟨by rw [Nat.sub_self], Nat.sub_self _⟩⟩, HRD.out, Below.refl _ _⟩
  case round =>
    obtain ⟨m, B, cb, rfl, hm, rfl, hown, hrd, HB⟩ := hrel
    cases m with
    | zero =>
      rw [List.drop_zero, Nat.sub_zero] at hown
      obtain ⟨hrB, hB1, hB2⟩ := rd_of_row hown (by rw [List.length_reverse])
      have HF := fun w hr => refFit_any neg B D.reverse cb sc w (fun d hd => HDG.out d (List.mem_reverse.1 hd)) hr (by rw [List.length_reverse]; exact hB1) hB2 (by omega)
      rw [List.length_reverse] at HF
      have HPP := HP.out
      obtain ⟨F, hF⟩ : ∃ F, fitZ (sg neg (val D.reverse)) sc = F := ⟨_, rfl⟩
      rw [hF] at HF HPP
      injection HPP with h1 h2
      injection h2 with h2 h3
      subst h1; subst h2; subst h3
      have HFF := Lib.hid HF; have HRB := Lib.hid hrB
      clear HF hrB hF hown hrd
      rw [Nat.sub_zero]
      cases F with
      | none =>
        unfold outN outK outE at *
        go_wp2_with (go_at_call 12; refine (HFF.out _ HRB.out).mono ?_; rintro e w' ⟨rfl, hb5⟩)
        exact bodyPost_ret (v := .tuple #[.int .i64 0, .int .i64 0, .int .i64 53]) (by simp [results, Tryd.results15, go_sem]) rfl ⟨rfl, bt (bt hb HB) hb5⟩
      | some q =>
        obtain ⟨qn, qk⟩ := q
        unfold outN outK outE at *
        go_wp2_with (go_at_call 12; refine (HFF.out _ HRB.out).mono ?_; rintro e w' ⟨rfl, hb5⟩)
        exact bodyPost_ret (v := .tuple #[.int .i64 qn, .int .i64 qk, .int .i64 0]) (by simp [results, Tryd.results15, go_sem]) rfl ⟨rfl, bt (bt hb HB) hb5⟩
    | succ m =>
      obtain ⟨ad, rfl, hcell⟩ := hrd (by intro e; subst e; simp at hm)
      have hlt : m < D.length := by omega
      have hx := hcell m _ (List.getElem?_eq_getElem hlt)
      obtain ⟨d, hd⟩ : ∃ d, D[m] = d := ⟨_, rfl⟩
      rw [hd] at hx
      have hdr : (D.drop m).reverse = (D.drop (m + 1)).reverse ++ [d] := by rw [List.drop_eq_getElem_cons hlt, List.reverse_cons, hd]
      have HDR := Lib.hid hdr
      have em : ((m + 1 : Nat) : Int) - 1 = (m : Int) := by omega
      have HRD2 := Lib.hid hrd
      have hmI : (0 : Int) ≤ (m : Int) := by omega
      have wm : IntKind.i64.wrap ((m : Int) - 1) = (m : Int) - 1 := by rw [IntKind.wrap_i64]; omega
      rw [em]
      clear hcell hd hdr hrd em
      go_wp2_with (at_builtin; refine wpList_append_any _ rfl (.tmp 83) (.tmp 88) 32 rfl W.heap.size 3 i0 _ 1 8 Tryd.underlying32 hi hz0 hz1 hz2 rfl (by omega) _ _ _ rfl (hown.alloc _) _ _ 1 1 [.int .i64 d] rfl (one_reads _ _) (by intro u hu; simp at hu; subst hu; rfl) (by unfold maxLen; omega) (by omega) (by simp; have := HB.size; omega) ?_; intro v3 w3 hown3 hg3 hat3; have hb3 : Below W.heap.size W w3 := below_far (ba HB) hg3 (fun q hq => (ownBlock_lt hown hq).1); obtain ⟨A3, c3, rfl⟩ := own_slice hown3; have HOW3 := Lib.hid hown3; clear hown3 hg3 hat3)
      go_roundw
      case rel => exact ⟨m, A3, c3, by rfl, by omega, by rw [show D.length - (m + 1) + 1 = D.length - m by omega], by rw [HDR.out, cellsD_snoc, show D.length - m = D.length - (m + 1) + 1 by omega]; exact HOW3.out, HRD.out.call hb3, hb3⟩
      case measure => first | (simp [intOf]; done) | (simp [intOf]; omega)
set_option maxRecDepth 100000 in
set_option maxHeartbeats 8000000 in
theorem refParse_rest (t : List UInt8) (ht : t.length ≤ 3000) (neg : Bool) (pn pk pe : Int) (hp : refT neg t = (pn, pk, pe)) (c1 c6 c7 c8 c9 c10 c11 c12 c13 c14 c15 c16 c17 c18 c19 c20 c21 c22 c23 c24 c25 c26 c27 c28 c29 c30 c31 c32 c33 c34 c35 c36 c37 c38 c39 c40 c41 c42 c43 c44 c45 c46 c47 c48 c49 c50 c51 c52 c53 c54 c55 c56 c57 c58 c59 c60 c61 c62 c63 c64 c65 c66 c67 c68 c69 c70 c71 c72 c73 c74 c75 c76 c77 c78 c79 c80 c81 c82 c83 c84 c85 c86 c87 c88 c89 c90 c91 c92 c93 c94 c95 c96 c97 c98 c99 c100 c101 c102 : Value) (w0 W : World) (hb : Below w0.heap.size w0 W)
    (K : Act → World → Prop) (hK : ∀ a w, Code.wp Tryd.prog (skipn 4 pbody) (bodyPost Tryd.prog Tryd.f15 fun e w' => e = .returned (.tuple #[.int .i64 pn, .int .i64 pk, .int .i64 pe]) ∧ Below w0.heap.size w0 w') a w → K a w) :
    Code.wp Tryd.prog ((Tryd.f15.body.bind (regionOf 5)).getD .skip) (Exit.then K (bodyPost Tryd.prog Tryd.f15 fun e w' => e = .returned (.tuple #[.int .i64 pn, .int .i64 pk, .int .i64 pe]) ∧ Below w0.heap.size w0 w')) { tmps := #[.string (ba' t), c1, .int .i64 0, .int .i64 0, .int .i64 0, .bool neg, c6, c7, c8, c9, c10, c11, c12, c13, c14, c15, c16, c17, c18, c19, c20, c21, c22, c23, c24, c25, c26, c27, c28, c29, c30, c31, c32, c33, c34, c35, c36, c37, c38, c39, c40, c41, c42, c43, c44, c45, c46, c47, c48, c49, c50, c51, c52, c53, c54, c55, c56, c57, c58, c59, c60, c61, c62, c63, c64, c65, c66, c67, c68, c69, c70, c71, c72, c73, c74, c75, c76, c77, c78, c79, c80, c81, c82, c83, c84, c85, c86, c87, c88, c89, c90, c91, c92, c93, c94, c95, c96, c97, c98, c99, c100, c101, c102], defers := [] } W := by
  obtain ⟨i0, hi, hz0, hz1, hz2⟩ := info_parts int_info
  have hs := size_ba t
  have hs1 : ((ba' t).size : Int) = t.length := by rw [hs]
  have HP := Lib.hid hp
  clear hp
  conv => arg 2; whnf
  conv at hK => enter [a, w, 1, 2]; whnf
  go_wp2_with fail
  go_loopw [6, 7, 8] (fun s6 s7 s8 wx => ScI t w0 s6 s7 s8 wx) (fun _ _ s8 _ => t.length - (intOf s8).toNat)
  case atStart => exact ⟨0, [], -1, none, 0, rfl, Nat.zero_le _, rfl, rfl, Lib.hid rfl, Nat.le_refl _, by decide, by decide, (fun d hd => by cases hd), ⟨rfl, .inl ⟨rfl, rfl⟩⟩, hb⟩
  case round =>
    obtain ⟨i, D, p, A, c, rfl, hi', rfl, rfl, hsc, hDi, hp1, hp2, hdg, hown, HB⟩ := hrel
    by_cases hlt : i < t.length
    · obtain ⟨c8, hc8⟩ : ∃ c8, t[i] = c8 := ⟨_, rfl⟩
      have hts : t.take (i + 1) = t.take i ++ [c8] := by rw [List.take_add_one, List.getElem?_eq_getElem hlt, hc8]; rfl
      have hst : (t.take (i + 1)).foldl stepS (some ([], -1)) = stepS (some (D, p)) c8 := by rw [hts, List.foldl_append, hsc.out]; rfl
      have hgi : ((ba' t)[i]'(by rw [hs]; exact hlt)).toNat = c8.toNat := by rw [← hc8]; rfl
      have hwhole : scanL t = (t.drop (i + 1)).foldl stepS (stepS (some (D, p)) c8) := by
        unfold scanL; conv => lhs; rw [← List.take_append_drop (i + 1) t]
        rw [List.foldl_append, hst]
      have HST := Lib.hid hst; have HW := Lib.hid hwhole
      have hDB : D.length ≤ 3000 := by omega
      clear hts hst hwhole hsc hc8
      by_cases hA : c8 = 46 ∧ p < 0
      · have hn : stepS (some (D, p)) c8 = some (D, (D.length : Int)) := by show (if c8 = 46 ∧ p < 0 then _ else _) = _; rw [if_pos hA]
        have HN : Hid ((t.take (i + 1)).foldl stepS (some ([], -1)) = some (D, (D.length : Int))) := Lib.hid (by rw [HST.out, hn])
        obtain ⟨rfl, hpn⟩ := hA
        have hpb : decide (p < 0) = true := by simpa using hpn
        have h46 : (46 : UInt8).toNat = 46 := rfl
        rw [h46] at hgi
        clear hn
        go_wp2
        go_roundw
        case rel => exact ⟨i + 1, D, _, A, c, by go_num, by omega, rfl, rfl, HN, by omega, by omega, Int.le_refl _, hdg, hown, HB⟩
        case measure => simp [intOf]; omega
      · by_cases hD : isD c8 = true
        · have hn : stepS (some (D, p)) c8 = some (D ++ [dgc c8], p) := by show (if c8 = 46 ∧ p < 0 then _ else if isD c8 = true then _ else _) = _; rw [if_neg hA, if_pos hD]
          have HN : Hid ((t.take (i + 1)).foldl stepS (some ([], -1)) = some (D ++ [dgc c8], p)) := Lib.hid (by rw [HST.out, hn])
          have hc1 : 48 ≤ (c8.toNat : Int) := by unfold isD at hD; simp at hD; omega
          have hc2 : (c8.toNat : Int) ≤ 57 := by unfold isD at hD; simp at hD; omega
          have hdd : (c8.toNat : Int) - 48 = dgc c8 := rfl
          obtain ⟨cv, hcv⟩ : ∃ cv, c8.toNat = cv := ⟨_, rfl⟩
          rw [hcv] at hgi hc1 hc2 hdd
          have e46 : ((cv : Int) == 46) = false := by simp; omega
          have e48 : decide ((cv : Int) < 48) = false := by simp; omega
          have e57 : decide ((57 : Int) < (cv : Int)) = false := by simp; omega
          have w8 : IntKind.u8.wrap ((cv : Int) - 48) = (cv : Int) - 48 := by rw [IntKind.wrap_u8]; omega
          obtain ⟨d, hd⟩ : ∃ d, dgc c8 = d := ⟨_, rfl⟩
          rw [hd] at hdd HN
          have d0 : 0 ≤ d := by omega
          have d9 : d ≤ 9 := by omega
          clear hn hA hD hcv hd HST HW
          go_wp2_with (at_builtin; refine wpList_append_any _ rfl (.tmp 59) (.tmp 65) 32 rfl w0.heap.size 3 i0 _ 1 8 Tryd.underlying32 hi hz0 hz1 hz2 rfl (by omega) _ _ _ rfl (hown.alloc _) _ _ 1 1 [.int .i64 d] rfl (one_reads _ _) (by intro u hu; simp at hu; subst hu; rfl) (by unfold maxLen; omega) (by omega) (by simp; have := HB.size; omega) ?_; intro v3 w3 hown3 hg3 hat3; have hb3 : Below w0.heap.size w0 w3 := below_far (ba HB) hg3 (fun q hq => (ownBlock_lt hown hq).1); obtain ⟨A3, c3, rfl⟩ := own_slice hown3; have HOW3 := Lib.hid hown3; clear hown3 hg3 hat3)
          go_roundw
          case rel => exact ⟨i + 1, D ++ [d], p, A3, c3, by go_num, by omega, by rw [List.length_append]; rfl, rfl, HN, by rw [List.length_append]; simp; omega, hp1, by rw [List.length_append]; simp; omega, isDig_append hdg (fun x hx => by simp at hx; subst hx; exact ⟨d0, d9⟩), row_snoc HOW3.out, hb3⟩
          case measure => simp [intOf]; omega
        · have hn : stepS (some (D, p)) c8 = none := by show (if c8 = 46 ∧ p < 0 then _ else if isD c8 = true then _ else _) = _; rw [if_neg hA, if_neg hD]
          have hR : (pn, pk, pe) = (0, 0, 12) := by rw [← HP.out]; unfold refT; rw [HW.out, hn, scan_none]
          injection hR with h1 h2
          injection h2 with h2 h3
          subst h1; subst h2; subst h3
          have h57 : (c8.toNat : Int) < 48 ∨ (57 : Int) < (c8.toNat : Int) := by unfold isD at hD; simp at hD; omega
          have h46 : ¬ (c8.toNat : Int) = 46 ∨ ¬ p < 0 := by
            by_cases e : c8 = 46
            · exact .inr fun h => hA ⟨e, h⟩
            · exact .inl fun h => e (by rw [← UInt8.toNat_inj]; have : (46 : UInt8).toNat = 46 := rfl; omega)
          obtain ⟨cv, hcv⟩ : ∃ cv, c8.toNat = cv := ⟨_, rfl⟩
          rw [hcv] at hgi h57 h46
          clear hn hA hD hcv HST HW
          have hall : (((cv : Int) == 46) = false ∧ decide ((cv : Int) < 48) = true) ∨ (((cv : Int) == 46) = false ∧ decide ((cv : Int) < 48) = false ∧ decide ((57 : Int) < (cv : Int)) = true) ∨ (cv = 46 ∧ decide (p < 0) = false) := by
            by_cases e : (cv : Int) = 46
            · exact .inr (.inr ⟨by omega, by simp; omega⟩)
            · by_cases e2 : (cv : Int) < 48
              · exact .inl ⟨by simpa using e, by simpa using e2⟩
              · exact .inr (.inl ⟨by simpa using e, by simpa using e2, by simp; omega⟩)
          clear h57 h46
          rcases hall with ⟨g1, g2⟩ | ⟨g1, g2, g3⟩ | ⟨rfl, g2⟩
          · go_wp2
            exact bodyPost_ret (v := .tuple #[.int .i64 0, .int .i64 0, .int .i64 12]) (by simp [results, Tryd.results15, go_sem]) rfl ⟨rfl, HB⟩
          · go_wp2
            exact bodyPost_ret (v := .tuple #[.int .i64 0, .int .i64 0, .int .i64 12]) (by simp [results, Tryd.results15, go_sem]) rfl ⟨rfl, HB⟩
          · go_wp2
            exact bodyPost_ret (v := .tuple #[.int .i64 0, .int .i64 0, .int .i64 12]) (by simp [results, Tryd.results15, go_sem]) rfl ⟨rfl, HB⟩
    · obtain rfl : i = t.length := by omega
      have hsc' : scanL t = some (D, p) := by have := hsc.out; rwa [List.take_length] at this
      have hT : (pn, pk, pe) = (if D = [] then (0, 0, 12) else (outN (fitZ (sg neg (val D.reverse)) (if 0 ≤ p then D.length - p.toNat else 0)), outK (fitZ (sg neg (val D.reverse)) (if 0 ≤ p then D.length - p.toNat else 0)), outE (fitZ (sg neg (val D.reverse)) (if 0 ≤ p then D.length - p.toNat else 0)))) := by
        rw [← HP.out]; unfold refT; rw [hsc']
      have hltJ : decide ((t.length : Int) < (t.length : Int)) = false := by simp
      clear hsc hsc'
      by_cases h0 : D = []
      · rw [if_pos h0] at hT
        injection hT with h1 h2
        injection h2 with h2 h3
        subst h1; subst h2; subst h3
        subst h0
        clear hown
        go_wp2
        exact bodyPost_ret (v := .tuple #[.int .i64 0, .int .i64 0, .int .i64 12]) (by simp [results, Tryd.results15, go_sem]) rfl ⟨rfl, HB⟩
      · rw [if_neg h0] at hT
        have hD1 : 0 < D.length := by cases D with
          | nil => exact absurd rfl h0
          | cons _ _ => simp
        clear h0
        obtain ⟨hrd, hDc, hc9⟩ := rd_of_row hown rfl
        have HRD := Lib.hid hrd; have HT := Lib.hid hT; have HDG := Lib.hid hdg
        have hD0 : ((D.length : Int) == 0) = false := by rw [beq_eq_false_iff_ne]; omega
        clear hown hrd hT hdg
        by_cases hp0 : 0 ≤ p
        · have hpb : decide ((0 : Int) ≤ p) = true := by simpa using hp0
          obtain ⟨sc, hsc⟩ : ∃ sc, D.length - p.toNat = sc := ⟨_, rfl⟩
          have hTT := HT.out
          rw [if_pos hp0, hsc] at hTT
          have wsc : IntKind.i64.wrap ((D.length : Int) - p) = (sc : Int) := by rw [IntKind.wrap_i64]; omega
          have HTT := Lib.hid hTT
          have hsc3 : sc ≤ 3000 := by omega
          clear hTT hsc
          go_upto_region 20 with fail
          refine refParse_low D (by omega) HDG.out A c neg sc hsc3 hDc hc9 pn pk pe HTT.out _ _ _ _ _ _ _ _ _ _ _ _ _ _ _ _ _ _ _ _ _ _ _ _ _ _ _ _ _ _ _ _ _ _ _ _ _ _ _ _ _ _ _ _ _ _ _ _ _ _ _ _ _ _ _ _ _ _ _ _ _ _ _ _ _ _ _ _ _ _ _ _ _ _ _ _ _ _ _ _ _ _ _ _ _ _ _ _ _ _ _ _ _ _ _ _ _ _ _ _ w0 wr HRD.out HB _ ?_
          assumption
        · have hpb : decide ((0 : Int) ≤ p) = false := by simpa using hp0
          have hTT := HT.out
          rw [if_neg hp0] at hTT
          have HTT := Lib.hid hTT
          clear hTT
          go_upto_region 20 with fail
          refine refParse_low D (by omega) HDG.out A c neg 0 (by omega) hDc hc9 pn pk pe HTT.out _ _ _ _ _ _ _ _ _ _ _ _ _ _ _ _ _ _ _ _ _ _ _ _ _ _ _ _ _ _ _ _ _ _ _ _ _ _ _ _ _ _ _ _ _ _ _ _ _ _ _ _ _ _ _ _ _ _ _ _ _ _ _ _ _ _ _ _ _ _ _ _ _ _ _ _ _ _ _ _ _ _ _ _ _ _ _ _ _ _ _ _ _ _ _ _ _ _ _ _ w0 wr HRD.out HB _ ?_
          assumption
set_option maxRecDepth 100000 in
set_option maxHeartbeats 8000000 in
theorem refParse_any (l : List UInt8) (hl : l.length ≤ 3000) (w0 : World) : Calls Tryd.prog 15 #[.string (ba' l)] w0 fun e w' => e = .returned (.tuple #[.int .i64 (parseZ l).1, .int .i64 (parseZ l).2.1, .int .i64 (parseZ l).2.2]) ∧ Below w0.heap.size w0 w' := by
  have hs := size_ba l
  have hs1 : ((ba' l).size : Int) = l.length := by rw [hs]
  have hR : refT (signL l).2 (signL l).1 = ((parseZ l).1, (parseZ l).2.1, (parseZ l).2.2) := by rw [← ref_parse]; rfl
  have hlen := signL_len l
  generalize (parseZ l).1 = pn at *
  generalize (parseZ l).2.1 = pk at *
  generalize (parseZ l).2.2 = pe at *
  have HR := Lib.hid hR
  clear hR
  cases l with
  | nil =>
    have e : signL [] = ([], false) := rfl
    rw [e] at HR
    go_enter Tryd.func15, Tryd.ntmps15
    go_upto_region 5 with fail
    refine refParse_rest [] (by simp) false pn pk pe HR.out _ _ _ _ _ _ _ _ _ _ _ _ _ _ _ _ _ _ _ _ _ _ _ _ _ _ _ _ _ _ _ _ _ _ _ _ _ _ _ _ _ _ _ _ _ _ _ _ _ _ _ _ _ _ _ _ _ _ _ _ _ _ _ _ _ _ _ _ _ _ _ _ _ _ _ _ _ _ _ _ _ _ _ _ _ _ _ _ _ _ _ _ _ _ _ _ _ _ w0 _ (Below.refl _ _) _ ?_
    assumption
  | cons c r =>
    have h0 : 0 < (ba' (c :: r)).size := by rw [hs]; simp
    have hgi : ((ba' (c :: r))[0]'h0).toNat = c.toNat := rfl
    have hsl : (ba' (c :: r)).extract 1 (ba' (c :: r)).size = ba' r := by
      apply ByteArray.ext
      simp [ba']
      exact List.take_of_length_le (by simp [ByteArray.size])
    have hrl : r.length ≤ 3000 := by simp at hl; omega
    have hsl2 : (ba' (c :: r)).extract 1 (r.length + 1) = ba' r := by rw [← hsl, hs]; rfl
    have HSL := Lib.hid hsl2
    clear hsl hsl2
    have hpos : (0 : Int) < ((ba' (c :: r)).size : Int) := by omega
    by_cases e45 : c = 45
    · subst e45
      have e : signL (45 :: r) = (r, true) := rfl
      rw [e] at HR
      have hg : (45 : UInt8).toNat = 45 := rfl
      rw [hg] at hgi
      clear e hlen
      go_enter Tryd.func15, Tryd.ntmps15
      go_upto_region 5 with fail
      rw [HSL.out]
      refine refParse_rest r hrl true pn pk pe HR.out _ _ _ _ _ _ _ _ _ _ _ _ _ _ _ _ _ _ _ _ _ _ _ _ _ _ _ _ _ _ _ _ _ _ _ _ _ _ _ _ _ _ _ _ _ _ _ _ _ _ _ _ _ _ _ _ _ _ _ _ _ _ _ _ _ _ _ _ _ _ _ _ _ _ _ _ _ _ _ _ _ _ _ _ _ _ _ _ _ _ _ _ _ _ _ _ _ _ w0 _ (Below.refl _ _) _ ?_
      assumption
    · by_cases e43 : c = 43
      · subst e43
        have e : signL (43 :: r) = (r, false) := rfl
        rw [e] at HR
        have hg : (43 : UInt8).toNat = 43 := rfl
        rw [hg] at hgi
        clear e hlen
        go_enter Tryd.func15, Tryd.ntmps15
        go_upto_region 5 with fail
        rw [HSL.out]
        refine refParse_rest r hrl false pn pk pe HR.out _ _ _ _ _ _ _ _ _ _ _ _ _ _ _ _ _ _ _ _ _ _ _ _ _ _ _ _ _ _ _ _ _ _ _ _ _ _ _ _ _ _ _ _ _ _ _ _ _ _ _ _ _ _ _ _ _ _ _ _ _ _ _ _ _ _ _ _ _ _ _ _ _ _ _ _ _ _ _ _ _ _ _ _ _ _ _ _ _ _ _ _ _ _ _ _ _ _ w0 _ (Below.refl _ _) _ ?_
        assumption
      · have e : signL (c :: r) = (c :: r, false) := by unfold signL; simp [e45, e43]
        rw [e] at HR
        have n45 : ¬ c.toNat = 45 := fun h => e45 (by rw [← UInt8.toNat_inj]; exact h)
        have n43 : ¬ c.toNat = 43 := fun h => e43 (by rw [← UInt8.toNat_inj]; exact h)
        obtain ⟨cv, hcv⟩ : ∃ cv, c.toNat = cv := ⟨_, rfl⟩
        rw [hcv] at n45 n43 hgi
        have b45 : ((cv : Int) == 45) = false := by rw [beq_eq_false_iff_ne]; omega
        have b43 : ((cv : Int) == 43) = false := by rw [beq_eq_false_iff_ne]; omega
        clear e hlen e45 e43 hcv
        go_enter Tryd.func15, Tryd.ntmps15
        go_upto_region 5 with fail
        refine refParse_rest (c :: r) hl false pn pk pe HR.out _ _ _ _ _ _ _ _ _ _ _ _ _ _ _ _ _ _ _ _ _ _ _ _ _ _ _ _ _ _ _ _ _ _ _ _ _ _ _ _ _ _ _ _ _ _ _ _ _ _ _ _ _ _ _ _ _ _ _ _ _ _ _ _ _ _ _ _ _ _ _ _ _ _ _ _ _ _ _ _ _ _ _ _ _ _ _ _ _ _ _ _ _ _ _ _ _ _ w0 _ (Below.refl _ _) _ ?_
        assumption
end Go.Proofs
