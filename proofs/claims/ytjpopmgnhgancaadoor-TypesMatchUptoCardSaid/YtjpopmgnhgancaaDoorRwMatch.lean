/- TypesMatch: whatever the trees, the type and the items, it answers true and leaves them as they were, where they are together of bulk at most 1048576; the six tables of the program are tied to the text that lays them. No condition beyond what the theorems state. -/
import Derived.Test.YtjpopmgnhgancaaDoorKdO
import Derived.Test.YtjpopmgnhgancaaDoorMdE
import Derived.OpenShut
namespace Go.Proofs.YtjpopmgnhgancaaDoor
open Go.ChangeShapes Go.WideShapes Go.ChangeAt Go.RowKit Go.Lib
namespace Matches
theorem te_of {W : World} (h : laidMetH Tryd.prog Rows.typesMatchUptoRow.laid W) : TE W :=
  te_of' (Lib.laidMet.reads h (n := "espalier/types.unseen") (.tail _ (.head _))) (Lib.laidMet.reads h (n := "espalier/types.leastAbove") (.tail _ (.tail _ (.tail _ (.tail _ (.head _))))))
theorem tk_of {W : World} (h : laidMetH Tryd.prog Rows.typesMatchUptoRow.laid W) : TK2 W :=
  tk_of' (Lib.laidMet.reads h (n := "espalier/types.leastOfNode") (.tail _ (.tail _ (.tail _ (.head _))))) (Lib.laidMet.reads h (n := "espalier/types.leastOfAtom") (.tail _ (.tail _ (.head _))))
theorem tabs_of {W : World} (h : laidMetH Tryd.prog Rows.typesMatchUptoRow.laid W) : tabs W :=
  tabs_of' (Lib.laidMet.reads h (n := "unicode/utf8.first") (.tail _ (.tail _ (.tail _ (.tail _ (.tail _ (.head _))))))) (Lib.laidMet.reads h (n := "unicode/utf8.acceptRanges") (.head _))
noncomputable def laidWorld (os : Os) : World :=
  let w0 := World.holding Tryd.prog os ⟨#[], #[], []⟩
  let put (h : Array Obj) (g : Nat) (cs : Array Value) : Array Obj := h.modify g fun
    | .cells _ t frozen => .cells cs t frozen
    | o => o
  let h1 := put w0.heap 2 #[.int .i64 2, .int .i64 0]
  let h2 := put h1 3 (abTab.map fun z => Value.int .i64 z).toArray
  let h3 := put h2 0 (onTab.map fun z => Value.int .i64 z).toArray
  let h4 := put h3 1 (oaTab.map fun z => Value.int .i64 z).toArray
  let h5 := put h4 4 (Lib.firstTab.map fun z => Value.int .u8 z).toArray
  let h6 := put h5 5 ((List.range 16).flatMap fun i => [Value.int .u8 (Lib.accLo i), Value.int .u8 (Lib.accHi i)]).toArray
  { w0 with heap := h6 }
theorem laid_met (os : Os) (args : Array Value) : laidMet Tryd.prog Rows.typesMatchUptoRow.laid ((laidWorld os).forCall (fun _ _ => 0) ⟨#[], args, []⟩).memory :=
  laidMet_of_run' 8 (by kernel_rfl) (by kernel_rfl)
theorem reads (os : Os) {H : Type} (enc : TypeId × Value → H) : ∃ places, DataW.whole enc Tryd.prog ((laidWorld os).forCall (fun _ _ => 0) ⟨#[], #[.slice none 0 0, .agg #[.int .i64 0, .string ⟨#[]⟩, .int .i64 0], .slice none 0 0], []⟩).memory Tryd.f3.params.toList Rows.typesMatchSpec.vars false #[Value.slice none 0 0, .agg #[.int .i64 0, .string ⟨#[]⟩, .int .i64 0], .slice none 0 0].toList 8 = some ([.nil, .agg [.lit (.int .i64 0), .lit (.string []), .lit (.int .i64 0)], .nil], [], places) :=
  ⟨[], by kernel_rfl⟩
set_option maxRecDepth 100000 in
theorem contract (H : Type) (enc : TypeId × Value → H) (W : World) (base : Nat) (args : Array Value) (ds gs : List (DataW H)) (before : List MemPlace)
    (hval : ∀ (j : Nat) t v, Tryd.f3.params[j]? = some t → args[j]? = some v → Value.okWide Tryd.prog W .any base t v)
    (hW : DataW.Whole enc Tryd.prog Tryd.f3.params.toList Rows.typesMatchSpec.vars false W args.toList ds gs before) (hL : laidMetH Tryd.prog Rows.typesMatchUptoRow.laid W) (hk : Rows.uptoBulkAll ds ≤ 1048576) :
    Calls Tryd.prog 3 args W fun e W' => ∃ v, e = .returned v ∧ Rows.typesMatchSpec.post enc Tryd.prog Tryd.f3 false true false false W args v W' := by
  have hW' := hW
  obtain ⟨p, q, hA0, hV, rfl, _, _⟩ := hW
  have hA : DataW.TrodAll enc Tryd.prog W 0 (fun _ => true) true Tryd.f3.params.toList args.toList ds p := hA0
  rw [Tryd.params3] at hA hval
  obtain ⟨v0, vs0, d0, ds0, p0, q0, hargs, rfl, rfl, h0, r0⟩ := trodAll_cons hA
  obtain ⟨v1, vs1, d1, ds1, p1, q1, rfl, rfl, rfl, h1, r1⟩ := trodAll_cons r0
  obtain ⟨v2, vs2, d2, ds2, p2, q2, rfl, rfl, rfl, h2, r2⟩ := trodAll_cons r1
  obtain ⟨rfl, rfl, rfl⟩ := trodAll_nil r2
  obtain rfl : args = #[v0, v1, v2] := by cases args; simp_all
  obtain ⟨rfl, rfl⟩ := trodVars_none hV
  have k0 := h0
  have lt0 : ∀ x ∈ p0, x.block < W.heap.size := by obtain ⟨m, hm⟩ := k0; exact DataW.trod_lt m _ _ _ hm
  have k1 := h1
  have lt1 : ∀ x ∈ p1, x.block < W.heap.size := by obtain ⟨m, hm⟩ := k1; exact DataW.trod_lt m _ _ _ hm
  have k2 := h2
  have lt2 : ∀ x ∈ p2, x.block < W.heap.size := by obtain ⟨m, hm⟩ := k2; exact DataW.trod_lt m _ _ _ hm
  obtain ⟨A0, cap0, ts, rfl, hR, hin, hb0⟩ := open_trees (hval 0 22 v0 rfl rfl) h0
  obtain ⟨i2, o2, l2, rfl, z2⟩ := open_st (hval 1 26 v1 rfl rfl) h1
  obtain ⟨A1, cap1, xs, rfl, hI, hx, hxl⟩ := open_items (hval 2 27 v2 rfl rfl) h2
  clear hA0
  simp only [Rows.uptoBulkAll] at hk
  refine (match_law A0 cap0 _ ts i2 o2 l2 A1 _ cap1 xs W (tabs_of hL) (te_of hL) (tk_of hL) hR rfl hin (fun t ht => by have := (hb0 t ht).1; omega) rfl (by omega) hI (fun x hx' => ⟨by have := (hx x hx').1; omega, (hx x hx').2⟩) (by omega)).mono fun e W' he => ?_
  obtain ⟨rfl, bel⟩ := he
  exact ⟨_, rfl, _, _, _, [], _, [], hW', trodAll_mk1 (shut_bool Tryd.underlying4 _), (trodAll_cons_mk (Below.trod laidOut (by kernel_rfl) (of_decide_eq_true (by kernel_rfl)) k0 bel lt0) (trodAll_cons_mk (Below.trod laidOut (by kernel_rfl) (of_decide_eq_true (by kernel_rfl)) k1 bel lt1) (trodAll_cons_mk (Below.trod laidOut (by kernel_rfl) (of_decide_eq_true (by kernel_rfl)) k2 bel lt2) trodAll_mk0))), rfl, bel.frame _, fun h => by cases h⟩
set_option maxRecDepth 100000 in
theorem lifted (os : Os) (started : os.Started) (H : Type) (enc : TypeId × Value → H) (F : Stop.Interp) :
    ReturnsInHanded {} Tryd.checked os 3 .any ((Rows.OpenSpec.upto Rows.typesMatchSpec).preRow enc Tryd.prog Tryd.f3 Rows.typesMatchUptoRow.domain false Rows.typesMatchUptoRow.laid) (((Rows.OpenSpec.upto Rows.typesMatchSpec).at F).post enc Tryd.prog Tryd.f3 false true false false) := by
  obtain ⟨places, hx⟩ := reads os enc
  refine returnsInHanded_of_row (C := Tryd.checked) (s := Rows.OpenSpec.upto Rows.typesMatchSpec) own started (by kernel_rfl) Tryd.func3
    (witness_row_at (enc := enc) (C := Tryd.checked) false (laidWorld os) #[.slice none 0 0, .agg #[.int .i64 0, .string ⟨#[]⟩, .int .i64 0], .slice none 0 0] rfl (by kernel_rfl) (by kernel_rfl) (by kernel_rfl)
      (OpenSpec.preRow_of_cond 8 hx (by kernel_rfl) (fun k hk => by cases hk; kernel_rfl) (by kernel_rfl) (laid_met os _))) ?_
  intro W base args ds gs before hval hW _ hcond _ hL _ _
  exact contract H enc W base args ds gs before hval hW hL (bulk_of hW (hcond _ rfl))
set_option maxRecDepth 100000 in
theorem said : Rows.TypesMatchUptoSaid :=
  OpenClaim.holds_of_cond 3 Tryd.f3 rfl rfl rfl rfl rfl rfl rfl ⟨rfl, rfl, rfl, rfl, rfl⟩ rfl rfl rfl rfl rfl (by kernel_rfl) Tryd.func3 (by kernel_rfl)
    (of_decide_eq_true (by kernel_rfl)) (by unfold Func.isWrapper; rw [if_neg (of_decide_eq_false (by kernel_rfl))]; exact ⟨rfl, rfl⟩)
    (fun os started H enc _ F => by rw [OpenClaim.pre_eq_preRow]; exact lifted os started H enc F)
set_option maxRecDepth 100000 in
theorem plain (f : FuncId) (fn : Func) (hf : Tryd.pinned.checked.prog.funcNamed Rows.typesMatchUptoRow.func = some f) (hfn : Tryd.pinned.checked.prog.funcs[f]? = some fn) :
    false = Tryd.pinned.checked.prog.looks [] ∧ ∀ (j : Nat) t, fn.params[j]? = some t → Tryd.pinned.checked.prog.wantsStandIn t = false := by
  obtain rfl : f = 3 := Option.some.inj ((show Tryd.prog.funcNamed Rows.typesMatchUptoRow.func = some 3 by kernel_rfl).symm.trans hf) |>.symm
  obtain rfl : fn = Tryd.f3 := (Option.some.inj (Tryd.func3.symm.trans hfn)).symm
  refine ⟨by kernel_rfl, fun j t ht => ?_⟩
  rw [Tryd.params3] at ht
  have hm := Array.mem_of_getElem? ht
  simp at hm
  rcases hm with rfl | rfl | rfl
  · exact (show Tryd.prog.wantsStandIn 22 = false by kernel_rfl)
  · exact (show Tryd.prog.wantsStandIn 26 = false by kernel_rfl)
  · exact (show Tryd.prog.wantsStandIn 27 = false by kernel_rfl)
end Matches
theorem typesMatch_card : Rows.TypesMatchUptoCardSaid :=
  Claim7.holds_tied_plain_at .later [] _ _ _ _ Matches.said (fun _ h => by cases h) (by kernel_rfl) (fun _ h => by cases h) typesMatchUpto_row_tie rfl ⟨rfl, rfl⟩ (by kernel_rfl) rfl Matches.plain (by kernel_rfl)
end Go.Proofs.YtjpopmgnhgancaaDoor
