/- The statement DecRounds: the loop. No condition beyond what the theorems state. -/
import Derived.Test.YtmggffhecopgiaaDoorRoundsRegion
namespace Go.Proofs
open Go.Shelf Go.RowKit Go.Proofs.Wide

theorem add_next (ad : Addr) (n : Nat) : ({block := (ad.add n).block, off := (ad.add n).off + 1} : Addr) = ad.add (n + 1) := by
  unfold Addr.add
  by_cases h : n = 0
  · subst h; simp
  · simp [h]; omega
theorem castL_snoc (M : List (Int × Nat)) (m : Int) (l : Nat) : castL (M ++ [(m, l)]) = castL M ++ [(m, (l : Int))] := by unfold castL; simp
theorem sumZ_snoc (M : List (Int × Nat)) (m : Int) (l : Nat) : sumZ (M ++ [(m, l)]) = stepZ (sumZ M) (m, l) := by unfold sumZ; rw [List.foldl_append]; rfl
def LoopR (L : List (Int × Int)) (W0 : World) (s14 s15 : Value) (wx : World) : Prop := ∃ (k : Nat) (M : List (Int × Nat)), s15 = .int .i64 k ∧ k ≤ L.length ∧ L.take k = castL M ∧ (∀ p ∈ M, RightZ p.1 p.2) ∧ (∀ n s, sumZ M = some (n, s) → RightZ n s) ∧
  s14 = .int .i64 (outE (sumZ M)) ∧ Own wx W0.heap.size (.int .i64 (outN (sumZ M))) (.int .i64 (outK (sumZ M))) ∧ Below W0.heap.size W0 wx
set_option maxRecDepth 100000 in
set_option maxHeartbeats 8000000 in
theorem rounds_loop (L : List (Int × Int)) (hI : ∀ p ∈ L, InI p.1 ∧ InI p.2) (h5 : L.length ≤ 500) (gg : Option Addr) (cap : Nat) (c0 c2 c3 c4 c5 c6 c7 c8 c9 c10 c11 c12 c13 c14 c15 c16 c17 c18 c19 c20 c21 c22 c23 c24 c25 c26 c27 c28 c29 c30 c31 c32 c33 c34 c35 c36 c37 c38 c39 c40 c41 c42 c43 c44 c45 c46 c47 c48 c49 c50 c51 c52 c53 c54 c55 c56 c57 c58 c59 c60 c61 c62 c63 c64 c65 c66 c67 c68 c69 c70 c71 c72 c73 c74 c75 c76 c77 c78 c79 c80 c81 c82 c83 c84 c85 c86 c87 c88 c89 c90 c91 c92 c93 c94 c95 c96 c97 c98 c99 c100 c101 c102 c103 c104 c105 c106 c107 c108 c109 c110 c111 c112 c113 c114 c115 c116 c117 c118 c119 c120 c121 c122 c123 c124 c125 c126 c127 c128 c129 c130 c131 c132 c133 c134 c135 c136 c137 c138 c139 c140 c141 c142 c143 c144 c145 c146 c147 c148 c149 c150 c151 c152 c153 c154 c155 c156 c157 c158 c159 c160 c161 c162 c163 c164 : Value) (w0 W0 : World)
    (hr : Reads W0 W0.heap.size 2 gg L.length (rowL L)) (hb : Below w0.heap.size w0 W0) (K : Act → World → Prop) (hK : ∀ a w, Code.wp Tryd.prog (skipn 11 rbody) (bodyPost Tryd.prog Tryd.f6 fun e w' => e = .returned (.bool true) ∧ Below w0.heap.size w0 w') a w → K a w) :
    Code.wp Tryd.prog ((Tryd.f6.body.bind (regionOf 15)).getD .skip) (Exit.then K (bodyPost Tryd.prog Tryd.f6 fun e w' => e = .returned (.bool true) ∧ Below w0.heap.size w0 w')) { tmps := #[c0, .slice gg (L.length : Nat) cap, c2, c3, c4, c5, c6, c7, c8, c9, c10, c11, c12, c13, c14, c15, c16, c17, c18, c19, c20, c21, c22, c23, c24, c25, c26, c27, c28, c29, c30, c31, c32, c33, c34, c35, c36, c37, c38, c39, c40, c41, c42, c43, c44, c45, c46, c47, c48, c49, c50, c51, c52, c53, c54, c55, c56, c57, c58, c59, c60, c61, c62, c63, c64, c65, c66, c67, c68, c69, c70, c71, c72, c73, c74, c75, c76, c77, c78, c79, c80, c81, c82, c83, c84, c85, c86, c87, c88, c89, c90, c91, c92, c93, c94, c95, c96, c97, c98, c99, c100, c101, c102, c103, c104, c105, c106, c107, c108, c109, c110, c111, c112, c113, c114, c115, c116, c117, c118, c119, c120, c121, c122, c123, c124, c125, c126, c127, c128, c129, c130, c131, c132, c133, c134, c135, c136, c137, c138, c139, c140, c141, c142, c143, c144, c145, c146, c147, c148, c149, c150, c151, c152, c153, c154, c155, c156, c157, c158, c159, c160, c161, c162, c163, c164], defers := [] } W0 := by
  conv => arg 2; whnf
  conv at hK => enter [a, w, 1, 2]; whnf
  go_wp2_with fail
  go_loopw [14, 15] (fun s14 s15 wx => LoopR L W0 s14 s15 wx) (fun _ s15 _ => L.length - (intOf s15).toNat)
  case atStart => exact ⟨0, [], rfl, Nat.zero_le _, rfl, by simp, fun n s h => by cases h; exact right_zero, rfl, Own.new_at rfl, ba (Below.refl _ _)⟩
  case round =>
    obtain ⟨k, M, rfl, hk, hM, hR, hS, rfl, O, HB⟩ := hrel
    by_cases hlt : k < L.length
    · obtain ⟨p, hp⟩ : ∃ p, L[k]? = some p := ⟨_, List.getElem?_eq_getElem hlt⟩
      obtain ⟨m, q⟩ := p
      obtain ⟨a1, a2⟩ := hI _ (List.mem_of_getElem? hp)
      obtain ⟨ad, rfl, hblk, hcell⟩ := hr.2 (by omega)
      obtain ⟨r1, r2⟩ := rowL_at L k _ hp
      have e1 : Hid (W0.cell? (ad.add (k * 2)) = some (.int .i64 m)) := Lib.hid (by rw [Nat.mul_comm]; exact hcell _ _ r1)
      have e2 : Hid (W0.cell? {block := (ad.add (k * 2)).block, off := (ad.add (k * 2)).off + 1} = some (.int .i64 q)) := Lib.hid (by rw [add_next, Nat.mul_comm]; exact hcell _ _ r2)
      have d1 : wr.cell? (ad.add (k * 2)) = some (.int .i64 m) := by rw [Nat.mul_comm]; exact (HB.cell (by rw [block_of_add]; exact hblk)).trans (hcell _ _ r1)
      have d2 : wr.cell? {block := (ad.add (k * 2)).block, off := (ad.add (k * 2)).off + 1} = some (.int .i64 q) := by
        rw [add_next, Nat.mul_comm]; exact (HB.cell (by rw [block_of_add]; exact hblk)).trans (hcell _ _ r2)
      have HM := Lib.hid hM; have HR := Lib.hid hR; have HS := Lib.hid hS; have HP := Lib.hid hp; have Hr := Lib.hid hr; have HI := Lib.hid hI
      clear hM hR hS hp hr hI r1 r2 hcell
      have hbk : ad.block < wr.heap.size := Nat.lt_of_lt_of_le hblk HB.size
      cases rb : rightB (m, q) with
      | false =>
        have R1 := gr a1 a2 rb
        clear rb
        go_wp2_with (go_at_call 10; refine (R1.out.call _).mono ?_; rintro e w1 ⟨rfl, hb1⟩)
        go_ret
        exact ⟨rfl, by repeat (first | exact Below.refl _ _ | assumption | apply ba | apply bd | apply bdr | (refine bs ?_ (by first | (simp; done) | (simp; omega))) | (refine bt ?_ (by assumption)))⟩
      | true =>
        have R1 := gr a1 a2 rb
        obtain ⟨l, rfl, zl⟩ := right_of rb
        have HZ := Lib.hid zl
        clear rb zl
        have htk : L.take (k + 1) = castL (M ++ [(m, l)]) := by rw [List.take_add_one, HP.out, HM.out, castL_snoc]; rfl
        have HT := Lib.hid htk
        have hRn : ∀ p ∈ M ++ [(m, l)], RightZ p.1 p.2 := by
          intro p hp
          rcases List.mem_append.1 hp with h | h
          · exact HR.out p h
          · simp at h; subst h; exact HZ.out
        have HRn := Lib.hid hRn
        clear htk hRn
        have hone := O.lt
        cases hs : sumZ M with
        | none =>
          rw [hs] at O
          have hs' : sumZ (M ++ [(m, l)]) = none := by rw [sumZ_snoc, hs]; rfl
          have HS' := Lib.hid hs'
          clear hs hs'
          unfold outN outK outE at *
          go_wp2_with (go_at_call 10; refine (R1.out.call _).mono ?_; rintro e w1 ⟨rfl, hb1⟩)
          go_roundw
          case rel =>
            refine ⟨k + 1, M ++ [(m, l)], by go_num, by omega, HT.out, HRn.out, ?_, by rw [HS'.out]; rfl, by rw [HS'.out]; exact O.call hb1, bt HB hb1⟩
            rw [HS'.out]; intro n s h; cases h
          case measure => simp [intOf]; omega
        | some p =>
          obtain ⟨n, s⟩ := p
          have zs := HS.out n s hs
          have hs' : sumZ (M ++ [(m, l)]) = addZ n s m l := by rw [sumZ_snoc, hs]; rfl
          rw [hs] at O
          have GA := ga zs HZ.out
          have hz : ∀ a b, addZ n s m l = some (a, b) → RightZ a b := fun a b e => ((add_some zs.2.2.1 HZ.out.2.2.1).1 e).1
          have HS' := Lib.hid hs'
          have HZ' := Lib.hid hz
          obtain ⟨r, hr⟩ : ∃ r, addZ n s m l = r := ⟨_, rfl⟩
          rw [hr] at GA
          have HA := Lib.hid hr
          clear hs hs' zs hz hr
          unfold outV outN outK outE at *
          go_wp2_with (go_at_call 10; refine (R1.out.call _).mono ?_; rintro e w1 ⟨rfl, hb1⟩; have O1 := O.call hb1; have HB1 := bt HB hb1)
          cases r with
          | none =>
            go_upto_region 22 with fail
            refine region22 _ _ _ _ _ _ _ _ _ _ _ _ _ _ _ _ _ _ _ _ _ _ _ _ _ _ _ _ _ _ _ _ _ _ _ _ _ _ _ _ _ _ _ _ _ _ _ _ _ _ _ _ _ _ _ _ _ _ _ _ _ _ _ _ _ _ _ _ _ _ _ _ _ _ _ _ _ _ _ _ _ _ _ _ _ _ _ _ _ _ _ _ _ _ _ _ _ _ _ _ _ _ _ _ _ _ _ _ _ _ _ _ _ _ _ _ _ _ _ _ _ _ _ _ _ _ _ _ _ _ _ _ _ _ _ _ _ _ _ _ _ _ _ _ _ _ _ _ _ _ _ _ _ _ _ _ _ _ _ _ _ _ _ _ _ _ _ _ _ _ _ _ _ W0 w1 _ hlt HB1 O1 hblk e1.out e2.out GA ?_
            intro w2 O2 HB2
            go_wp2
            go_roundw
            case rel => exact ⟨k + 1, M ++ [(m, l)], by go_num, by omega, HT.out, HRn.out, (by rw [HS'.out, HA.out]; exact fun _ _ h => (by cases h)), (by rw [HS'.out, HA.out]; rfl), (by rw [HS'.out, HA.out]; exact O2), HB2⟩
            case measure => simp [intOf]; omega
          | some p =>
            obtain ⟨x, y⟩ := p
            go_upto_region 22 with fail
            refine region22 _ _ _ _ _ _ _ _ _ _ _ _ _ _ _ _ _ _ _ _ _ _ _ _ _ _ _ _ _ _ _ _ _ _ _ _ _ _ _ _ _ _ _ _ _ _ _ _ _ _ _ _ _ _ _ _ _ _ _ _ _ _ _ _ _ _ _ _ _ _ _ _ _ _ _ _ _ _ _ _ _ _ _ _ _ _ _ _ _ _ _ _ _ _ _ _ _ _ _ _ _ _ _ _ _ _ _ _ _ _ _ _ _ _ _ _ _ _ _ _ _ _ _ _ _ _ _ _ _ _ _ _ _ _ _ _ _ _ _ _ _ _ _ _ _ _ _ _ _ _ _ _ _ _ _ _ _ _ _ _ _ _ _ _ _ _ _ _ _ _ _ _ _ W0 w1 _ hlt HB1 O1 hblk e1.out e2.out GA ?_
            intro w2 O2 HB2
            go_wp2
            go_roundw
            case rel => exact ⟨k + 1, M ++ [(m, l)], by go_num, by omega, HT.out, HRn.out, (by rw [HS'.out, HA.out]; exact fun n' s' h => (by cases h; exact HZ'.out _ _ HA.out)), (by rw [HS'.out, HA.out]; rfl), (by rw [HS'.out, HA.out]; exact O2), HB2⟩
            case measure => simp [intOf]; omega
    · obtain rfl : k = L.length := by omega
      rw [List.take_length] at hM
      subst hM
      have hl : (castL M).length = M.length := by unfold castL; simp
      go_upto_region 23 with fail
      refine rounds_end M hR _ hl (by omega) gg cap W0.heap.size _ _ _ _ _ _ _ _ _ _ _ _ _ _ _ _ _ _ _ _ _ _ _ _ _ _ _ _ _ _ _ _ _ _ _ _ _ _ _ _ _ _ _ _ _ _ _ _ _ _ _ _ _ _ _ _ _ _ _ _ _ _ _ _ _ _ _ _ _ _ _ _ _ _ _ _ _ _ _ _ _ _ _ _ _ _ _ _ _ _ _ _ _ _ _ _ _ _ _ _ _ _ _ _ _ _ _ _ _ _ _ _ _ _ _ _ _ _ _ _ _ _ _ _ _ _ _ _ _ _ _ _ _ _ _ _ _ _ _ _ _ _ _ _ _ _ _ _ _ _ _ _ _ _ _ _ _ _ _ _ _ _ w0 wr ((hr.below HB).more HB.size) O (bt hb HB) _ ?_
      assumption
end Go.Proofs
