/- The statement DecRounds: behind the loop. No condition beyond what the theorems state. -/
import Derived.Test.YtmggffhecopgiaaDoorRowWords
import Derived.Test.YtmggffhecopgiaaDoorRowSums
import Derived.Test.YtmggffhecopgiaaDoorRoundFacts
import Derived.Maps.AppendAt
import Derived.Deep.AppendLies
import Derived.OwnWalk
namespace Go.Proofs
open Go.Shelf Go.RowKit Go.Proofs.Wide

def skipn : Nat → Code → Code
  | 0, c => c
  | n+1, .seq _ b => skipn n b
  | _, c => c
def regionOf (n : Nat) : Code → Option Code
  | .region id ops dr => if id = n then some (.region id ops dr) else none
  | .seq a b => match regionOf n a with
    | some c => some c
    | none => regionOf n b
  | .cond _ a b => match regionOf n a with
    | some c => some c
    | none => regionOf n b
  | .block _ c => regionOf n c
  | .loop c => regionOf n c
  | .scope c => regionOf n c
  | _ => none
noncomputable def rbody : Code := Tryd.f6.body.getD .skip
def rowL (L : List (Int × Int)) : List Value := L.flatMap fun p => [.int .i64 p.1, .int .i64 p.2]
theorem rowL_len (L : List (Int × Int)) : (rowL L).length = L.length * 2 := by
  induction L with
  | nil => rfl
  | cons a L ih => unfold rowL at *; rw [List.flatMap_cons, List.length_append, ih]; simp; omega
theorem rowL_at : ∀ (L : List (Int × Int)) (i : Nat) (p : Int × Int), L[i]? = some p → (rowL L)[2 * i]? = some (.int .i64 p.1) ∧ (rowL L)[2 * i + 1]? = some (.int .i64 p.2)
  | [], i, p, h => by simp at h
  | a :: L, 0, p, h => by simp at h; subst h; exact ⟨rfl, rfl⟩
  | a :: L, i + 1, p, h => by
    have h' : L[i]? = some p := by simpa using h
    have := rowL_at L i p h'
    have e1 : 2 * (i + 1) = 2 * i + 1 + 1 := by omega
    rw [e1]
    exact this
theorem rowL_one (L : List (Int × Int)) : ∀ u ∈ rowL L, u.oneCell' = true := by
  intro u hu
  unfold rowL at hu
  rw [List.mem_flatMap] at hu
  obtain ⟨p, _, hp⟩ := hu
  simp at hp
  rcases hp with rfl | rfl <;> rfl
theorem num_info : (Tryd.prog.info? 23).map (fun i => (i.zero, i.size, i.bytes)) = some (some (.agg #[.int .i64 0, .int .i64 0]), 2, 16) := by kernel_rfl
theorem run_build_empty (w : World) : (Instr.buildSlice 47 0 #[]).run Tryd.prog w = .ok (.slice (some ⟨w.heap.size, 0, none⟩) 0 0) (w.alloc (.cells #[] 23)) := by
  obtain ⟨i0, hi0, hz0, hz1, hz2⟩ := info_parts num_info
  simp [Instr.buildSlice, run_underlying Tryd.underlying47, sizeOf, typeInfo, hi0, Instr.fill, newRow, show Array.range 0 = #[] from by decide]
theorem wpList_build_empty {ops : Array Oper} {rest : List Oper} {o : Oper} {a : Act} {w : World} {Q : Exit → Act → World → Prop} (hg : o.guard = none) (ho : o.op = .buildSlice 47 0 #[])
    (h : wpList Tryd.prog ops Q rest (a.put o.dst (.slice (some ⟨w.heap.size, 0, none⟩) 0 0)) (w.alloc (.cells #[] 23))) : wpList Tryd.prog ops Q (o :: rest) a w :=
  wpList_plain hg fun _ hK => by
    unfold Oper.wp execOp
    simp only [ho, Sem.run_bind, List.map_toArray, List.map_nil, run_build_empty, Result.andThen_ok]
    exact hK _ _ h
theorem nums_owned {w : World} {base n : Nat} {v : Value} {L : List (Int × Int)} (h : w.ownsRow base 23 2 v n (rowL L)) (hv : v.ownBlock ≠ none) :
    ∃ g cap, v = .slice (some ⟨g, 0, none⟩) n cap ∧ base ≤ g ∧ g < w.heap.size ∧ Nums w g L := by
  rcases h.2 with ⟨rfl, _⟩ | ⟨g, cap, cur, rfl, hb, hh, hc, _, hs, ht⟩
  · exact absurd rfl hv
  · have hg : g < w.heap.size := (Array.getElem?_eq_some_iff.1 hh).1
    refine ⟨g, cap, rfl, hb, hg, fun i p hp => ?_⟩
    obtain ⟨r1, r2⟩ := rowL_at L i p hp
    have cell : ∀ j u, (rowL L)[j]? = some u → w.cell? ⟨g, j, none⟩ = some u := by
      intro j u hu
      rw [← ht, List.getElem?_take] at hu
      split at hu
      · simp [World.cell?, hh] 
        simpa using hu
      · cases hu
    exact ⟨cell _ _ r1, cell _ _ r2⟩
def Gives' (L : List (Int × Nat)) (rn rk re : Int) : Prop := ∀ (g cp : Nat) (w : World), Nums w g (castL L) → g < w.heap.size →
  Calls Tryd.prog 30 #[.slice (some ⟨g, 0, none⟩) L.length cp] w fun e w' => e = .returned (.tuple #[.agg #[.int .i64 rn, .int .i64 rk], .int .i64 re]) ∧ Below w.heap.size w w'
set_option maxRecDepth 100000 in
set_option maxHeartbeats 8000000 in
theorem rounds_end (L : List (Int × Nat)) (hL : ∀ p ∈ L, RightZ p.1 p.2) (len : Nat) (hlen : len = L.length) (h5 : L.length ≤ 500) (gg : Option Addr) (cap g13 : Nat) (c0 c2 c3 c4 c5 c6 c7 c8 c9 c10 c11 c12 c15 c16 c17 c18 c19 c20 c21 c22 c23 c24 c25 c26 c27 c28 c29 c30 c31 c32 c33 c34 c35 c36 c37 c38 c39 c40 c41 c42 c43 c44 c45 c46 c47 c48 c49 c50 c51 c52 c53 c54 c55 c56 c57 c58 c59 c60 c61 c62 c63 c64 c65 c66 c67 c68 c69 c70 c71 c72 c73 c74 c75 c76 c77 c78 c79 c80 c81 c82 c83 c84 c85 c86 c87 c88 c89 c90 c91 c92 c93 c94 c95 c96 c97 c98 c99 c100 c101 c102 c103 c104 c105 c106 c107 c108 c109 c110 c111 c112 c113 c114 c115 c116 c117 c118 c119 c120 c121 c122 c123 c124 c125 c126 c127 c128 c129 c130 c131 c132 c133 c134 c135 c136 c137 c138 c139 c140 c141 c142 c143 c144 c145 c146 c147 c148 c149 c150 c151 c152 c153 c154 c155 c156 c157 c158 c159 c160 c161 c162 c163 c164 : Value) (w0 w : World)
    (hr : Reads w w.heap.size 2 gg len (rowL (castL L))) (O : Own w g13 (.int .i64 (outN (sumZ L))) (.int .i64 (outK (sumZ L)))) (hb : Below w0.heap.size w0 w)
    (K : Act → World → Prop) (hK : ∀ a w, Code.wp Tryd.prog (skipn 13 rbody) (bodyPost Tryd.prog Tryd.f6 fun e w' => e = .returned (.bool true) ∧ Below w0.heap.size w0 w') a w → K a w) :
    Code.wp Tryd.prog ((Tryd.f6.body.bind (regionOf 23)).getD .skip) (Exit.then K (bodyPost Tryd.prog Tryd.f6 fun e w' => e = .returned (.bool true) ∧ Below w0.heap.size w0 w')) { tmps := #[c0, .slice gg (len : Nat) cap, c2, c3, c4, c5, c6, c7, c8, c9, c10, c11, c12, .pointer (some ⟨g13, 0, none⟩), .int .i64 (outE (sumZ L)), c15, c16, c17, c18, c19, c20, c21, c22, c23, c24, c25, c26, c27, c28, c29, c30, c31, c32, c33, c34, c35, c36, c37, c38, c39, c40, c41, c42, c43, c44, c45, c46, c47, c48, c49, c50, c51, c52, c53, c54, c55, c56, c57, c58, c59, c60, c61, c62, c63, c64, c65, c66, c67, c68, c69, c70, c71, c72, c73, c74, c75, c76, c77, c78, c79, c80, c81, c82, c83, c84, c85, c86, c87, c88, c89, c90, c91, c92, c93, c94, c95, c96, c97, c98, c99, c100, c101, c102, c103, c104, c105, c106, c107, c108, c109, c110, c111, c112, c113, c114, c115, c116, c117, c118, c119, c120, c121, c122, c123, c124, c125, c126, c127, c128, c129, c130, c131, c132, c133, c134, c135, c136, c137, c138, c139, c140, c141, c142, c143, c144, c145, c146, c147, c148, c149, c150, c151, c152, c153, c154, c155, c156, c157, c158, c159, c160, c161, c162, c163, c164], defers := [] } w := by
  subst hlen
  obtain ⟨i0, hi0, hz0, hz1, hz2⟩ := info_parts num_info
  obtain ⟨r, hsr⟩ : ∃ r, sumZ L = r := ⟨_, rfl⟩
  have HC : Hid (Gives' L (outN r) (outK r) (outE r)) := fun g cp w hN hg => by
    have := sum_any g cp L w hL (by omega) hN hg
    rw [hsr] at this
    exact this
  rw [hsr] at O ⊢
  clear hsr hL
  rcases r with _ | ⟨rn, rk⟩ <;> unfold outN outK outE at *
  all_goals
    have hone := O.lt
    obtain ⟨_, _, _, _⟩ := id O
    conv => arg 2; whnf
    conv at hK => enter [a, w, 1, 2]; whnf
    go_wp2_with (first
      | (refine wpList_build_empty rfl rfl ?_)
      | (at_builtin
         refine wpList_append_any _ rfl (.tmp 138) (.tmp 139) _ rfl w.heap.size 23 i0 _ 2 16 Tryd.underlying47 hi0 hz0 hz1 hz2 rfl (by omega) (.slice (some ⟨w.heap.size, 0, none⟩) 0 0) 0 [] rfl
           ⟨by simp, .inr ⟨w.heap.size, 0, #[], rfl, Nat.le_refl _, heap_alloc_new w _, by omega, by simp [maxLen], rfl, rfl⟩⟩ w.heap.size gg L.length cap (rowL (castL L)) rfl (hr.alloc (Nat.le_refl _) _) (rowL_one _) (by simp only [maxLen]; omega) (by omega) (by simp) ?_
         intro v1 w1 hown hg hat
         have hbw : Below w.heap.size w w1 := ((Below.refl _ _).alloc (Nat.le_refl _) _).grown hg (by simp) (by simp [Value.ownBlock])
         obtain ⟨g, cp, rfl, hgb, hgl, hN⟩ := nums_owned (L := castL L) (n := L.length) (by simpa using hown) (by rcases hat with e | e <;> rw [e] <;> simp [Value.ownBlock])
         have O1 := O.call hbw
         clear hown hg hat)
      | (go_at_call 30; refine (HC.out g cp w1 hN hgl).mono ?_; rintro e w2 ⟨rfl, hb2⟩; have O2 := O1.call hb2; obtain ⟨_, _, _, _⟩ := id O2; have l2 := O2.lt))
    all_goals go_ret
    all_goals exact ⟨by simp, by repeat (first | exact Below.refl _ _ | assumption | apply ba | apply bd | apply bdr | (refine bs ?_ (by first | (simp; done) | (simp; omega))) | (refine bt ?_ (by assumption)))⟩
end Go.Proofs
