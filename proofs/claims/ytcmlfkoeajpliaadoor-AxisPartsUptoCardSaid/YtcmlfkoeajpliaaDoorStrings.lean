/- Package node writes the string of a node. No condition beyond what the theorems state. -/
import Derived.Test.YtcmlfkoeajpliaaDoorBuild
import Derived.Test.YtcmlfkoeajpliaaDoorShelf
namespace Go.Proofs.YtcmlfkoeajpliaaDoor
open Go.RowKit Go.Lib
set_option maxRecDepth 100000
set_option maxHeartbeats 8000000
theorem at_in (sb lim : Nat) (A : Option Addr) (c : Nat) (L : List En) (i : Nat) (k : Int) (n v : List UInt8) (p e : Nat) (w : World) (hS : StoreAt w sb lim A c L) (hi : L[i]? = some ⟨k, n, v, p, e⟩) (hL : L.length ≤ 1048576) :
    Calls Tryd.prog 58 #[.pointer (some ⟨sb, 0, none⟩), .int .i64 ((i : Int) + 1)] w fun e' w' => e' = .returned (.agg #[.int .i64 k, .string (ba' n), .string (ba' v), .int .i64 (p : Int), .int .i64 (e : Int)]) ∧ Below w.heap.size w w' := by
  have HE := Lib.hid (fun (w1 : World) (hb1 : Below w.heap.size w w1) => len_same sb lim A c L w1 (hS.below hb1))
  have hlt : i < L.length := (List.getElem?_eq_some_iff.1 hi).1
  obtain ⟨h0, h1, h2, h3, h4⟩ := hS
  obtain ⟨g, hg⟩ : ∃ g, A = some ⟨g, 0, none⟩ := by
    rcases h4.2 with ⟨h', hz⟩ | ⟨g, cap, cur, h', _⟩
    · omega
    · simp at h'
      exact ⟨g, h'.1⟩
  subst hg
  have hgb := own_lt h4 (b := g) rfl
  have rd := fun o u hu (ho : o < 5) => (h4.cellAt (i * 5 + o) (by omega)).trans (rowE_at L i _ o u hi hu ho)
  have r0 : w.cell? ⟨g, i * 5, none⟩ = _ := rd 0 _ rfl (by decide)
  have r1 := rd 1 _ rfl (by decide)
  have r2 := rd 2 _ rfl (by decide)
  have r3 := rd 3 _ rfl (by decide)
  have r4 := rd 4 _ rfl (by decide)
  obtain ⟨ln, hn⟩ : ∃ n, L.length = n := ⟨_, rfl⟩
  rw [hn] at h2 hL HE hlt
  clear hn h4 rd hi
  have g1 : decide ((i : Int) + 1 < 1) = false := by simp; omega
  have g2 : decide ((i : Int) + 1 > (ln : Int)) = false := by simp; omega
  have g3 : decide ((ln : Int) < (i : Int) + 1) = false := by simp; omega
  have g4 : decide ((i : Int) < (ln : Int)) = true := by first | (simp; done) | (simp; omega)
  have hw : (i : Int) + 1 - 1 = (i : Int) := by omega
  go_enter Tryd.func58, Tryd.ntmps58
  go_wp2_with (go_at_call 22; go_must (refine (HE.out _ (by repeat (with_reducible (first | exact Below.refl _ _ | assumption | apply ba | apply bd | apply bdr | (refine bs ?_ (by first | assumption | (simp; done) | (simp; omega))) | (refine bt ?_ (by assumption)))))).mono ?_); rintro e w9 ⟨rfl, rfl⟩)
  exact bodyPost_ret (v := .agg #[.int .i64 k, .string (ba' n), .string (ba' v), .int .i64 (p : Int), .int .i64 (e : Int)]) (by simp [results, Tryd.results58, go_sem, *]) rfl ⟨rfl, by repeat (with_reducible (first | exact Below.refl _ _ | assumption | apply ba | apply bd | apply bdr | (refine bs ?_ (by first | assumption | (simp; done) | (simp; omega))) | (refine bt ?_ (by assumption))))⟩
theorem kind_in (sb lim : Nat) (A : Option Addr) (c : Nat) (L : List En) (i : Nat) (k : Int) (n v : List UInt8) (p e : Nat) (w : World) (hS : StoreAt w sb lim A c L) (hi : L[i]? = some ⟨k, n, v, p, e⟩) (hL : L.length ≤ 1048576) :
    Calls Tryd.prog 32 #[.pointer (some ⟨sb, 0, none⟩), .int .i64 ((i : Int) + 1)] w fun e' w' => e' = .returned (.int .i64 k) ∧ Below w.heap.size w w' := by
  have HA := Lib.hid (fun (w1 : World) (hb1 : Below w.heap.size w w1) => at_in sb lim A c L i k n v p e w1 (hS.below hb1) hi hL)
  have hfld := fun (x0 x1 x2 x3 x4 : Value) (w : World) => (by kernel_rfl : (Instr.field 90 (.agg #[x0, x1, x2, x3, x4]) 0).run Tryd.prog w = .ok (x0) w)
  clear hS hi hL
  go_enter Tryd.func32, Tryd.ntmps32
  go_wp2_with (go_at_call 58; go_must (refine (HA.out _ (by repeat (with_reducible (first | exact Below.refl _ _ | assumption | apply ba | apply bd | apply bdr | (refine bs ?_ (by first | assumption | (simp; done) | (simp; omega))) | (refine bt ?_ (by assumption)))))).mono ?_); rintro e w1 ⟨rfl, hb1⟩)
  go_ret
  exact ⟨rfl, by repeat (with_reducible (first | exact Below.refl _ _ | assumption | apply ba | apply bd | apply bdr | (refine bs ?_ (by first | assumption | (simp; done) | (simp; omega))) | (refine bt ?_ (by assumption))))⟩
theorem parent_in (sb lim : Nat) (A : Option Addr) (c : Nat) (L : List En) (i : Nat) (k : Int) (n v : List UInt8) (p e : Nat) (w : World) (hS : StoreAt w sb lim A c L) (hi : L[i]? = some ⟨k, n, v, p, e⟩) (hL : L.length ≤ 1048576) :
    Calls Tryd.prog 31 #[.pointer (some ⟨sb, 0, none⟩), .int .i64 ((i : Int) + 1)] w fun e' w' => e' = .returned (.int .i64 (p : Int)) ∧ Below w.heap.size w w' := by
  have HA := Lib.hid (fun (w1 : World) (hb1 : Below w.heap.size w w1) => at_in sb lim A c L i k n v p e w1 (hS.below hb1) hi hL)
  have hfld := fun (x0 x1 x2 x3 x4 : Value) (w : World) => (by kernel_rfl : (Instr.field 90 (.agg #[x0, x1, x2, x3, x4]) 3).run Tryd.prog w = .ok (x3) w)
  clear hS hi hL
  go_enter Tryd.func31, Tryd.ntmps31
  go_wp2_with (go_at_call 58; go_must (refine (HA.out _ (by repeat (with_reducible (first | exact Below.refl _ _ | assumption | apply ba | apply bd | apply bdr | (refine bs ?_ (by first | assumption | (simp; done) | (simp; omega))) | (refine bt ?_ (by assumption)))))).mono ?_); rintro e w1 ⟨rfl, hb1⟩)
  go_ret
  exact ⟨rfl, by repeat (with_reducible (first | exact Below.refl _ _ | assumption | apply ba | apply bd | apply bdr | (refine bs ?_ (by first | assumption | (simp; done) | (simp; omega))) | (refine bt ?_ (by assumption))))⟩
theorem end_in (sb lim : Nat) (A : Option Addr) (c : Nat) (L : List En) (i : Nat) (k : Int) (n v : List UInt8) (p e : Nat) (w : World) (hS : StoreAt w sb lim A c L) (hi : L[i]? = some ⟨k, n, v, p, e⟩) (hL : L.length ≤ 1048576) :
    Calls Tryd.prog 30 #[.pointer (some ⟨sb, 0, none⟩), .int .i64 ((i : Int) + 1)] w fun e' w' => e' = .returned (.int .i64 (e : Int)) ∧ Below w.heap.size w w' := by
  have HA := Lib.hid (fun (w1 : World) (hb1 : Below w.heap.size w w1) => at_in sb lim A c L i k n v p e w1 (hS.below hb1) hi hL)
  have hfld := fun (x0 x1 x2 x3 x4 : Value) (w : World) => (by kernel_rfl : (Instr.field 90 (.agg #[x0, x1, x2, x3, x4]) 4).run Tryd.prog w = .ok (x4) w)
  clear hS hi hL
  go_enter Tryd.func30, Tryd.ntmps30
  go_wp2_with (go_at_call 58; go_must (refine (HA.out _ (by repeat (with_reducible (first | exact Below.refl _ _ | assumption | apply ba | apply bd | apply bdr | (refine bs ?_ (by first | assumption | (simp; done) | (simp; omega))) | (refine bt ?_ (by assumption)))))).mono ?_); rintro e w1 ⟨rfl, hb1⟩)
  go_ret
  exact ⟨rfl, by repeat (with_reducible (first | exact Below.refl _ _ | assumption | apply ba | apply bd | apply bdr | (refine bs ?_ (by first | assumption | (simp; done) | (simp; omega))) | (refine bt ?_ (by assumption))))⟩
end Go.Proofs.YtcmlfkoeajpliaaDoor
namespace Go.Proofs.YtcmlfkoeajpliaaDoor
open Go.RowKit Go.Lib
set_option maxRecDepth 100000
set_option maxHeartbeats 4000000
theorem bsize : (Tryd.prog.info? 97).map (·.size) = some 2 := by kernel_rfl
theorem blies : liesAt Tryd.prog Tryd.prog.depth 97 (2 / Tryd.prog.cellsOf 97) 0 97 1 = true := by kernel_rfl
theorem byte_info : (Tryd.prog.info? 5).map (fun i => (i.zero, i.size, i.bytes)) = some (some (.int .u8 0), 1, 1) := by kernel_rfl
theorem check_old (b : Nat) (w : World) (h0 : w.cell? ⟨b, 0, none⟩ = some (.pointer (some ⟨b, 0, none⟩))) :
    Calls Tryd.prog 84 #[.pointer (some ⟨b, 0, none⟩)] w fun e w' => e = .returned (.tuple #[]) ∧ w' = w := by
  obtain ⟨j, hj, _⟩ := Option.map_eq_some_iff.1 bsize
  go_enter Tryd.func84, Tryd.ntmps84
  go_wp2
  rw [Lib.run_neq_ptr_same w _ Tryd.underlying94 hj]
  go_wp2
  go_end0
  exact ⟨rfl, rfl⟩
theorem check_new (b : Nat) (w : World) (h0 : w.cell? ⟨b, 0, none⟩ = some (.pointer none)) (hsh : w.shape? b = some (97, 2)) (hfz : w.frozen? ⟨b, 0, none⟩ = false) :
    Calls Tryd.prog 84 #[.pointer (some ⟨b, 0, none⟩)] w fun e w' => e = .returned (.tuple #[]) ∧ w' = w.setCell ⟨b, 0, none⟩ (.pointer (some ⟨b, 0, none⟩)) := by
  obtain ⟨j, hj, hjs⟩ := Option.map_eq_some_iff.1 bsize
  go_enter Tryd.func84, Tryd.ntmps84
  go_wp2
  rw [Lib.run_to_unsafe w ⟨b, 0, none⟩ Tryd.underlying94 Tryd.underlying139 hj (by rw [hjs]; decide) hsh (Nat.zero_lt_succ 1)]
  simp only [Result.andThen]
  rw [Oper.upon_value]
  go_wp2
  rw [run_callFunc_extern Tryd.func107 (by kernel_rfl) (by kernel_rfl) (by kernel_rfl) (e := Extern.AbiNoEscape.same) (by kernel_rfl)]
  rw [Lib.run_noEscape]
  simp only [Result.andThen]
  rw [Oper.upon_value]
  go_wp2
  rw [Lib.run_from_unsafe w ⟨b, 0, none⟩ Tryd.underlying139 Tryd.underlying94 hj hsh blies]
  simp only [Result.andThen]
  rw [Oper.upon_value]
  go_wp2
  go_end0
  exact ⟨rfl, rfl⟩
theorem check_any (B b : Nat) (bs : List Value) (w : World) (h : Lib.IsBuilder 97 5 B b bs w) :
    Calls Tryd.prog 84 #[.pointer (some ⟨b, 0, none⟩)] w fun e w' => e = .returned (.tuple #[]) ∧ Lib.BuilderAt 97 5 B b (.pointer (some ⟨b, 0, none⟩)) bs w' ∧ Below B w w' := by
  rcases h with h | h
  · exact (check_new b w h.cell0 h.shape h.frozen0).mono fun e w' ⟨h1, h2⟩ => by subst h1 h2; exact ⟨rfl, h.used _, (Below.refl B w).setCell (p := ⟨b, 0, none⟩) h.1 _⟩
  · exact (check_old b w h.cell0).mono fun e w' ⟨h1, h2⟩ => by subst h1 h2; exact ⟨rfl, h, Below.refl B _⟩
theorem write_any (B b : Nat) (bs : List Value) (s : ByteArray) (w : World) (h : Lib.IsBuilder 97 5 B b bs w) (hlen : bs.length + s.size ≤ 140737488355328) (hBw : B ≤ w.heap.size) :
    Calls Tryd.prog 62 #[.pointer (some ⟨b, 0, none⟩), .string s] w fun e w' => e = .returned (.tuple #[.int .i64 s.size, .nilIface]) ∧ Lib.BuilderAt 97 5 B b (.pointer (some ⟨b, 0, none⟩)) (bs ++ Lib.strCells s) w' ∧ Below B w w' := by
  obtain ⟨i0, hi, hz0, hz1, hz2⟩ := info_parts byte_info
  have e84 : ∀ args w, (callFunc 84 args).run Tryd.prog w = .ok (.enter 84 args) w := enters_of Tryd.func84 (by kernel_rfl) rfl
  go_enter Tryd.func62, Tryd.ntmps62
  go_wp2_with (go_at_fn 84; refine (check_any B b bs _ h).mono ?_)
  rintro e w1 ⟨rfl, h1, hb1⟩
  obtain ⟨hB, v, hbk, hown, hne⟩ := h1
  have c0 : w1.cell? ⟨b, 0, none⟩ = some (.pointer (some ⟨b, 0, none⟩)) := by rw [Lib.cell_of_heap hbk]; rfl
  have c1 : w1.cell? ⟨b, 1, none⟩ = some v := by rw [Lib.cell_of_heap hbk]; rfl
  have y1 := hb1.size
  go_wp2_with (at_builtin; refine Lib.wpList_append_own_string _ rfl _ _ 95 9 rfl B 5 i0 Tryd.underlying95 Tryd.underlying9 hi hz0 hz1 hz2 _ _ _ rfl hown s rfl (by unfold maxLen; omega) (by omega) (by omega) ?_)
  intro v2 w2 hown2 hgrow _
  have hlt : b < w1.heap.size := (Array.getElem?_eq_some_iff.1 hbk).1
  have hb2 : w2.heap[b]? = some (.cells #[.pointer (some ⟨b, 0, none⟩), v] 97 (0, 0)) := (hgrow.block b hlt (fun e => hne e.symm)).trans hbk
  have d0 : w2.cell? ⟨b, 0, none⟩ = some (.pointer (some ⟨b, 0, none⟩)) := by rw [Lib.cell_of_heap hb2]; rfl
  have d1 : w2.cell? ⟨b, 1, none⟩ = some v := by rw [Lib.cell_of_heap hb2]; rfl
  have f1 : w2.frozen? ⟨b, 1, none⟩ = false := Lib.frozen_of_heap hb2 1
  obtain ⟨A2, c2, rfl⟩ := own_slice hown2
  go_wp2
  go_ret2
  refine ⟨rfl, ?_, ?_⟩
  · exact Lib.BuilderAt.put (T := 97) (e := 5) hB hb2 (bs' := bs ++ Lib.strCells s) (by simpa [Lib.strCells_length] using hown2) (by decide)
  · exact (hb1.grown hgrow (by omega) (fun k hk => (own_lt hown hk).1)).setCell (p := ⟨b, 1, none⟩) hB _
end Go.Proofs.YtcmlfkoeajpliaaDoor
namespace Go.Proofs.YtcmlfkoeajpliaaDoor
open Go.RowKit Go.Lib
set_option maxRecDepth 100000
set_option maxHeartbeats 8000000
def textE (l : List En) : List UInt8 := l.flatMap fun y => if y.k = 4 then y.v else []
theorem textE_app (a b : List En) : textE (a ++ b) = textE a ++ textE b := by unfold textE; exact List.flatMap_append
theorem textE_le (l : List En) (j m : Nat) (h : j ≤ m) : (textE (l.take j)).length ≤ (textE (l.take m)).length := by
  have e : l.take m = l.take j ++ (l.take m).drop j := by
    have := List.take_append_drop j (l.take m)
    rw [List.take_take, Nat.min_eq_left h] at this
    exact this.symm
  rw [e, textE_app, List.length_append]
  omega
theorem textE_step (l : List En) (j : Nat) (y : En) (h : l[j]? = some y) : textE (l.take (j + 1)) = textE (l.take j) ++ (if y.k = 4 then y.v else []) := by
  rw [List.take_add_one, h, textE_app]
  congr 1
  show textE [y] = _
  unfold textE
  simp
theorem builder_carry {B b : Nat} {bs : List Value} {w w' : World} (h : Lib.IsBuilder 97 5 B b bs w) (hb : Below w.heap.size w w') : Lib.IsBuilder 97 5 B b bs w' := by
  have one : ∀ p, Lib.BuilderAt 97 5 B b p bs w → Lib.BuilderAt 97 5 B b p bs w' := fun p ⟨h1, v, h2, h3, h4⟩ =>
    ⟨h1, v, (hb.block b (Array.getElem?_eq_some_iff.1 h2).1).trans h2, own_below h3 hb, h4⟩
  exact h.elim (fun x => .inl (one _ x)) (fun x => .inr (one _ x))
theorem builder_new (w : World) : Lib.IsBuilder 97 5 w.heap.size w.heap.size [] (w.alloc (.cells #[.pointer none, .slice none 0 0] 97)) :=
  .inl ⟨Nat.le_refl _, .slice none 0 0, heap_alloc_new _ _, World.ownsRow_nil _ _ _ _, by simp [Value.ownBlock]⟩
theorem string1 (sb lim : Nat) (A : Option Addr) (c : Nat) (L : List En) (i : Nat) (n v : List UInt8) (p e : Nat) (w : World) (hS : StoreAt w sb lim A c L) (hi : L[i]? = some ⟨1, n, v, p, e⟩) (hL : L.length ≤ 1048576) (hie : i < e) (heL : e ≤ L.length) (hb : (textE ((L.drop i).take (e - i))).length ≤ 1048576) :
    Calls Tryd.prog 28 #[.pointer (some ⟨sb, 0, none⟩), .int .i64 ((i : Int) + 1)] w fun e' w' => e' = .returned (.string (ba' (textE ((L.drop i).take (e - i))))) ∧ Below w.heap.size w w' := by
  have HA := Lib.hid (fun (w1 : World) (hb1 : Below w.heap.size w w1) => at_in sb lim A c L i 1 n v p e w1 (hS.below hb1) hi hL)
  have hs := hS
  obtain ⟨h0, h1, h2, h3, h4⟩ := hS
  obtain ⟨g, hg⟩ : ∃ g, A = some ⟨g, 0, none⟩ := by
    rcases h4.2 with ⟨h', hz⟩ | ⟨g, cap, cur, h', _⟩
    · omega
    · simp at h'
      exact ⟨g, h'.1⟩
  subst hg
  have hgb := own_lt h4 (b := g) rfl
  have hcap : L.length ≤ c ∧ c ≤ maxLen := by
    rcases h4.2 with ⟨h', hz⟩ | ⟨g, cap, cur, h', _, _, hc1, hc2, _⟩
    · omega
    · simp at h'
      omega
  have HO := Lib.hid h4
  obtain ⟨ln, hn⟩ : ∃ n, L.length = n := ⟨_, rfl⟩
  rw [hn] at h2 hL heL hcap
  have HN := Lib.hid hn
  obtain ⟨hc1, hc2⟩ := hcap
  unfold maxLen at hc2
  have HB := Lib.hid hb
  have hw2 : IntKind.i64.wrap (i : Int) = (i : Int) := by rw [IntKind.wrap_i64]; omega
  have hw1 : (i : Int) + 1 - 1 = (i : Int) := by omega
  have hw3 : IntKind.i64.wrap ((i : Int) + 1 - 1) = (i : Int) := by rw [hw1]; exact hw2
  have g1 : decide ((i : Int) ≤ (e : Int)) = true := by first | (simp; done) | (simp; omega)
  have g2 : decide ((e : Int) ≤ (c : Int)) = true := by first | (simp; done) | (simp; omega)
  have hec : e ≤ c := by omega
  have hie2 : i ≤ e := by omega
  clear hs h4 hn hi hb
  go_enter Tryd.func28, Tryd.ntmps28
  go_wp2_with (go_at_call 58; go_must (refine (HA.out _ (by repeat (with_reducible (first | exact Below.refl _ _ | assumption | apply ba | apply bd | apply bdr | (refine bs ?_ (by first | assumption | (simp; done) | (simp; omega))) | (refine bt ?_ (by assumption)))))).mono ?_; rintro e w1 ⟨rfl, hb1⟩; have hcs := fun o => (bcell hb1).1 sb o h0; have hcg := fun o => (bcell hb1).1 g o hgb.2; have hfs := fun o => (bcell hb1).2 sb o h0; have y1 := hb1.size; have HB1 := Lib.hid hb1; have hsb1 : sb < w1.heap.size := (by omega); have hsg1 : g < w1.heap.size := (by omega)))
  go_quiet (fail)
  go_wp2
  have hBn : Lib.IsBuilder 97 5 (w1.heap.size + 1) (w1.heap.size + 1) [] ((w1.alloc (.cells #[.int .i64 1, .string (ba' n), .string (ba' v), .int .i64 (p : Int), .int .i64 (e : Int)] 90)).alloc (.cells #[.pointer none, .slice none 0 0] 97)) := by
    have := builder_new (w1.alloc (.cells #[.int .i64 1, .string (ba' n), .string (ba' v), .int .i64 (p : Int), .int .i64 (e : Int)] 90))
    simpa using this
  have HBN := Lib.hid hBn
  clear hBn
  go_loopw [32] (fun s32 wx => ∃ j : Nat, s32 = .int .i64 j ∧ j ≤ e - i ∧ Hid (Lib.IsBuilder 97 5 (w1.heap.size + 1) (w1.heap.size + 1) (Lib.byteCells (textE ((L.drop i).take j))) wx) ∧ w1.heap.size + 2 ≤ wx.heap.size ∧ Below w1.heap.size w1 wx) (fun s32 _ => (e - i) - (intOf s32).toNat)
  case atStart => exact ⟨0, rfl, Nat.zero_le _, Lib.hid (builder_carry HBN.out (bd (Below.refl _ _))), by simp, by repeat (with_reducible (first | exact Below.refl _ _ | assumption | apply ba | apply bd | apply bdr | (refine bs ?_ (by first | assumption | (simp; done) | (simp; omega))) | (refine bt ?_ (by assumption))))⟩
  case round =>
    obtain ⟨j, rfl, hj, hbl, hz, hBW⟩ := hrel
    have hcr := fun o => hBW.cell (p := ⟨g, o, none⟩) hsg1
    have BW := hb1.trans (hBW.mono y1)
    by_cases hlt : j < e - i
    · have q1 : decide ((j : Int) < ((e - i : Nat) : Int)) = true := by first | (simp; done) | (simp; omega)
      have hij : i + j < L.length := by rw [HN.out]; omega
      obtain ⟨y, hy⟩ : ∃ y, L[i + j]? = some y := ⟨_, List.getElem?_eq_getElem hij⟩
      have HST := Lib.hid (textE_step (L.drop i) j y (by rw [List.getElem?_drop]; exact hy))
      have rd := fun o u hu (ho : o < 5) => (hcr ((i + j) * 5 + o)).trans ((hcg ((i + j) * 5 + o)).trans ((HO.out.cellAt ((i + j) * 5 + o) (by omega)).trans (rowE_at L (i + j) _ o u hy hu ho)))
      obtain ⟨yk, yn, yv, yp, ye⟩ := y
      have r0 : wr.cell? ⟨g, i * 5 + j * 5, none⟩ = some (.int .i64 yk) := by have := rd 0 _ rfl (by decide); rwa [show (i + j) * 5 + 0 = i * 5 + j * 5 by omega] at this
      have eadd : (⟨g, i * 5, none⟩ : Addr).add (j * 5) = ⟨g, i * 5 + j * 5, none⟩ := by unfold Addr.add; split <;> simp_all
      have r0b : wr.cell? ((⟨g, i * 5, none⟩ : Addr).add (j * 5)) = some (.int .i64 yk) := by rw [eadd]; exact r0
      have r1 : wr.cell? ⟨g, i * 5 + j * 5 + 1, none⟩ = some (.string (ba' yn)) := by have := rd 1 _ rfl (by decide); rwa [show (i + j) * 5 + 1 = i * 5 + j * 5 + 1 by omega] at this
      have r2 : wr.cell? ⟨g, i * 5 + j * 5 + 2, none⟩ = some (.string (ba' yv)) := by have := rd 2 _ rfl (by decide); rwa [show (i + j) * 5 + 2 = i * 5 + j * 5 + 2 by omega] at this
      have r3 : wr.cell? ⟨g, i * 5 + j * 5 + 3, none⟩ = some (.int .i64 (yp : Int)) := by have := rd 3 _ rfl (by decide); rwa [show (i + j) * 5 + 3 = i * 5 + j * 5 + 3 by omega] at this
      have r4 : wr.cell? ⟨g, i * 5 + j * 5 + 4, none⟩ = some (.int .i64 (ye : Int)) := by have := rd 4 _ rfl (by decide); rwa [show (i + j) * 5 + 4 = i * 5 + j * 5 + 4 by omega] at this
      have hle := textE_le (L.drop i) (j + 1) (e - i) (by omega)
      have hbo := HB.out
      clear rd hy hij hcr hcg
      by_cases h4 : yk = 4
      · subst h4
        have hst : textE ((L.drop i).take (j + 1)) = textE ((L.drop i).take j) ++ yv := by rw [HST.out]; rfl
        have HWR := Lib.hid (fun (w2 : World) (hb2 : Below wr.heap.size wr w2) => write_any (w1.heap.size + 1) (w1.heap.size + 1) _ (ba' yv) w2 (builder_carry hbl.out hb2) (by
          have : (textE ((L.drop i).take (j + 1))).length ≤ 1048576 := by omega
          rw [hst, List.length_append] at this
          rw [size_ba]
          simp only [Lib.byteCells, List.length_map]
          omega) (by have := hb2.size; omega))
        have HST2 := Lib.hid hst
        clear hst hle hbo
        go_wp2_with (go_at_call 62; go_must (refine (HWR.out _ (by repeat (with_reducible (first | exact Below.refl _ _ | assumption | apply ba | apply bd | apply bdr | (refine bs ?_ (by first | assumption | (simp; done) | (simp; omega))) | (refine bt ?_ (by assumption)))))).mono ?_; rintro e w3 ⟨rfl, hw3, hb3⟩; have HW3 := Lib.hid hw3; have y3 := hb3.size; have HB3 := Lib.hid hb3; clear hw3 hb3))
        go_roundw
        case rel =>
          refine ⟨j + 1, by go_num, by omega, Lib.hid ?_, ?_, ?_⟩
          · rw [HST2.out]
            have := HW3.out
            rw [Lib.strCells_eq] at this
            have e2 : Lib.byteCells (textE ((L.drop i).take j) ++ yv) = Lib.byteCells (textE ((L.drop i).take j)) ++ Lib.byteCells (ba' yv).data.toList := by simp [Lib.byteCells, ba']
            rw [e2]
            exact .inr this
          · simp at y3; omega
          · exact (hBW.alloc (by omega) _).trans (HB3.out.mono (by omega))
        case measure => simp [intOf]; omega
      · have n4 : (yk == 4) = false := by simpa using h4
        have hst : textE ((L.drop i).take (j + 1)) = textE ((L.drop i).take j) := by rw [HST.out]; simp [h4]
        have HST2 := Lib.hid hst
        clear hst hle hbo h4
        go_wp2
        go_roundw
        case rel =>
          refine ⟨j + 1, by go_num, by omega, Lib.hid ?_, by simp; omega, by repeat (with_reducible (first | exact Below.refl _ _ | assumption | apply ba | apply bd | apply bdr | (refine bs ?_ (by first | assumption | (simp; done) | (simp; omega))) | (refine bt ?_ (by assumption))))⟩
          rw [HST2.out]
          exact builder_carry hbl.out (ba (Below.refl _ _))
        case measure => simp [intOf]; omega
    · obtain rfl : j = e - i := by omega
      have q1 : decide (((e - i : Nat) : Int) < ((e - i : Nat) : Int)) = false := by simp
      have HSS := Lib.hid (Tryd.Builder_String_any (w1.heap.size + 1) (w1.heap.size + 1) _ wr hbl.out (by omega))
      go_wp2_with (go_at_call 63; go_must (refine HSS.out.mono ?_; rintro e w3 ⟨rfl, hb3⟩))
      go_ret
      exact ⟨rfl, BW.trans (hb3.mono (by omega))⟩
theorem string2 (sb lim : Nat) (A : Option Addr) (c : Nat) (L : List En) (i : Nat) (n v : List UInt8) (p e : Nat) (w : World) (hS : StoreAt w sb lim A c L) (hi : L[i]? = some ⟨2, n, v, p, e⟩) (hL : L.length ≤ 1048576) (hie : i < e) (heL : e ≤ L.length) (hb : (textE ((L.drop i).take (e - i))).length ≤ 1048576) :
    Calls Tryd.prog 28 #[.pointer (some ⟨sb, 0, none⟩), .int .i64 ((i : Int) + 1)] w fun e' w' => e' = .returned (.string (ba' (textE ((L.drop i).take (e - i))))) ∧ Below w.heap.size w w' := by
  have HA := Lib.hid (fun (w1 : World) (hb1 : Below w.heap.size w w1) => at_in sb lim A c L i 2 n v p e w1 (hS.below hb1) hi hL)
  have hs := hS
  obtain ⟨h0, h1, h2, h3, h4⟩ := hS
  obtain ⟨g, hg⟩ : ∃ g, A = some ⟨g, 0, none⟩ := by
    rcases h4.2 with ⟨h', hz⟩ | ⟨g, cap, cur, h', _⟩
    · omega
    · simp at h'
      exact ⟨g, h'.1⟩
  subst hg
  have hgb := own_lt h4 (b := g) rfl
  have hcap : L.length ≤ c ∧ c ≤ maxLen := by
    rcases h4.2 with ⟨h', hz⟩ | ⟨g, cap, cur, h', _, _, hc1, hc2, _⟩
    · omega
    · simp at h'
      omega
  have HO := Lib.hid h4
  obtain ⟨ln, hn⟩ : ∃ n, L.length = n := ⟨_, rfl⟩
  rw [hn] at h2 hL heL hcap
  have HN := Lib.hid hn
  obtain ⟨hc1, hc2⟩ := hcap
  unfold maxLen at hc2
  have HB := Lib.hid hb
  have hw2 : IntKind.i64.wrap (i : Int) = (i : Int) := by rw [IntKind.wrap_i64]; omega
  have hw1 : (i : Int) + 1 - 1 = (i : Int) := by omega
  have hw3 : IntKind.i64.wrap ((i : Int) + 1 - 1) = (i : Int) := by rw [hw1]; exact hw2
  have g1 : decide ((i : Int) ≤ (e : Int)) = true := by first | (simp; done) | (simp; omega)
  have g2 : decide ((e : Int) ≤ (c : Int)) = true := by first | (simp; done) | (simp; omega)
  have hec : e ≤ c := by omega
  have hie2 : i ≤ e := by omega
  clear hs h4 hn hi hb
  go_enter Tryd.func28, Tryd.ntmps28
  go_wp2_with (go_at_call 58; go_must (refine (HA.out _ (by repeat (with_reducible (first | exact Below.refl _ _ | assumption | apply ba | apply bd | apply bdr | (refine bs ?_ (by first | assumption | (simp; done) | (simp; omega))) | (refine bt ?_ (by assumption)))))).mono ?_; rintro e w1 ⟨rfl, hb1⟩; have hcs := fun o => (bcell hb1).1 sb o h0; have hcg := fun o => (bcell hb1).1 g o hgb.2; have hfs := fun o => (bcell hb1).2 sb o h0; have y1 := hb1.size; have HB1 := Lib.hid hb1; have hsb1 : sb < w1.heap.size := (by omega); have hsg1 : g < w1.heap.size := (by omega)))
  go_quiet (fail)
  go_wp2
  have hBn : Lib.IsBuilder 97 5 (w1.heap.size + 1) (w1.heap.size + 1) [] ((w1.alloc (.cells #[.int .i64 2, .string (ba' n), .string (ba' v), .int .i64 (p : Int), .int .i64 (e : Int)] 90)).alloc (.cells #[.pointer none, .slice none 0 0] 97)) := by
    have := builder_new (w1.alloc (.cells #[.int .i64 2, .string (ba' n), .string (ba' v), .int .i64 (p : Int), .int .i64 (e : Int)] 90))
    simpa using this
  have HBN := Lib.hid hBn
  clear hBn
  go_loopw [32] (fun s32 wx => ∃ j : Nat, s32 = .int .i64 j ∧ j ≤ e - i ∧ Hid (Lib.IsBuilder 97 5 (w1.heap.size + 1) (w1.heap.size + 1) (Lib.byteCells (textE ((L.drop i).take j))) wx) ∧ w1.heap.size + 2 ≤ wx.heap.size ∧ Below w1.heap.size w1 wx) (fun s32 _ => (e - i) - (intOf s32).toNat)
  case atStart => exact ⟨0, rfl, Nat.zero_le _, Lib.hid (builder_carry HBN.out (bd (Below.refl _ _))), by simp, by repeat (with_reducible (first | exact Below.refl _ _ | assumption | apply ba | apply bd | apply bdr | (refine bs ?_ (by first | assumption | (simp; done) | (simp; omega))) | (refine bt ?_ (by assumption))))⟩
  case round =>
    obtain ⟨j, rfl, hj, hbl, hz, hBW⟩ := hrel
    have hcr := fun o => hBW.cell (p := ⟨g, o, none⟩) hsg1
    have BW := hb1.trans (hBW.mono y1)
    by_cases hlt : j < e - i
    · have q1 : decide ((j : Int) < ((e - i : Nat) : Int)) = true := by first | (simp; done) | (simp; omega)
      have hij : i + j < L.length := by rw [HN.out]; omega
      obtain ⟨y, hy⟩ : ∃ y, L[i + j]? = some y := ⟨_, List.getElem?_eq_getElem hij⟩
      have HST := Lib.hid (textE_step (L.drop i) j y (by rw [List.getElem?_drop]; exact hy))
      have rd := fun o u hu (ho : o < 5) => (hcr ((i + j) * 5 + o)).trans ((hcg ((i + j) * 5 + o)).trans ((HO.out.cellAt ((i + j) * 5 + o) (by omega)).trans (rowE_at L (i + j) _ o u hy hu ho)))
      obtain ⟨yk, yn, yv, yp, ye⟩ := y
      have r0 : wr.cell? ⟨g, i * 5 + j * 5, none⟩ = some (.int .i64 yk) := by have := rd 0 _ rfl (by decide); rwa [show (i + j) * 5 + 0 = i * 5 + j * 5 by omega] at this
      have eadd : (⟨g, i * 5, none⟩ : Addr).add (j * 5) = ⟨g, i * 5 + j * 5, none⟩ := by unfold Addr.add; split <;> simp_all
      have r0b : wr.cell? ((⟨g, i * 5, none⟩ : Addr).add (j * 5)) = some (.int .i64 yk) := by rw [eadd]; exact r0
      have r1 : wr.cell? ⟨g, i * 5 + j * 5 + 1, none⟩ = some (.string (ba' yn)) := by have := rd 1 _ rfl (by decide); rwa [show (i + j) * 5 + 1 = i * 5 + j * 5 + 1 by omega] at this
      have r2 : wr.cell? ⟨g, i * 5 + j * 5 + 2, none⟩ = some (.string (ba' yv)) := by have := rd 2 _ rfl (by decide); rwa [show (i + j) * 5 + 2 = i * 5 + j * 5 + 2 by omega] at this
      have r3 : wr.cell? ⟨g, i * 5 + j * 5 + 3, none⟩ = some (.int .i64 (yp : Int)) := by have := rd 3 _ rfl (by decide); rwa [show (i + j) * 5 + 3 = i * 5 + j * 5 + 3 by omega] at this
      have r4 : wr.cell? ⟨g, i * 5 + j * 5 + 4, none⟩ = some (.int .i64 (ye : Int)) := by have := rd 4 _ rfl (by decide); rwa [show (i + j) * 5 + 4 = i * 5 + j * 5 + 4 by omega] at this
      have hle := textE_le (L.drop i) (j + 1) (e - i) (by omega)
      have hbo := HB.out
      clear rd hy hij hcr hcg
      by_cases h4 : yk = 4
      · subst h4
        have hst : textE ((L.drop i).take (j + 1)) = textE ((L.drop i).take j) ++ yv := by rw [HST.out]; rfl
        have HWR := Lib.hid (fun (w2 : World) (hb2 : Below wr.heap.size wr w2) => write_any (w1.heap.size + 1) (w1.heap.size + 1) _ (ba' yv) w2 (builder_carry hbl.out hb2) (by
          have : (textE ((L.drop i).take (j + 1))).length ≤ 1048576 := by omega
          rw [hst, List.length_append] at this
          rw [size_ba]
          simp only [Lib.byteCells, List.length_map]
          omega) (by have := hb2.size; omega))
        have HST2 := Lib.hid hst
        clear hst hle hbo
        go_wp2_with (go_at_call 62; go_must (refine (HWR.out _ (by repeat (with_reducible (first | exact Below.refl _ _ | assumption | apply ba | apply bd | apply bdr | (refine bs ?_ (by first | assumption | (simp; done) | (simp; omega))) | (refine bt ?_ (by assumption)))))).mono ?_; rintro e w3 ⟨rfl, hw3, hb3⟩; have HW3 := Lib.hid hw3; have y3 := hb3.size; have HB3 := Lib.hid hb3; clear hw3 hb3))
        go_roundw
        case rel =>
          refine ⟨j + 1, by go_num, by omega, Lib.hid ?_, ?_, ?_⟩
          · rw [HST2.out]
            have := HW3.out
            rw [Lib.strCells_eq] at this
            have e2 : Lib.byteCells (textE ((L.drop i).take j) ++ yv) = Lib.byteCells (textE ((L.drop i).take j)) ++ Lib.byteCells (ba' yv).data.toList := by simp [Lib.byteCells, ba']
            rw [e2]
            exact .inr this
          · simp at y3; omega
          · exact (hBW.alloc (by omega) _).trans (HB3.out.mono (by omega))
        case measure => simp [intOf]; omega
      · have n4 : (yk == 4) = false := by simpa using h4
        have hst : textE ((L.drop i).take (j + 1)) = textE ((L.drop i).take j) := by rw [HST.out]; simp [h4]
        have HST2 := Lib.hid hst
        clear hst hle hbo h4
        go_wp2
        go_roundw
        case rel =>
          refine ⟨j + 1, by go_num, by omega, Lib.hid ?_, by simp; omega, by repeat (with_reducible (first | exact Below.refl _ _ | assumption | apply ba | apply bd | apply bdr | (refine bs ?_ (by first | assumption | (simp; done) | (simp; omega))) | (refine bt ?_ (by assumption))))⟩
          rw [HST2.out]
          exact builder_carry hbl.out (ba (Below.refl _ _))
        case measure => simp [intOf]; omega
    · obtain rfl : j = e - i := by omega
      have q1 : decide (((e - i : Nat) : Int) < ((e - i : Nat) : Int)) = false := by simp
      have HSS := Lib.hid (Tryd.Builder_String_any (w1.heap.size + 1) (w1.heap.size + 1) _ wr hbl.out (by omega))
      go_wp2_with (go_at_call 63; go_must (refine HSS.out.mono ?_; rintro e w3 ⟨rfl, hb3⟩))
      go_ret
      exact ⟨rfl, BW.trans (hb3.mono (by omega))⟩
end Go.Proofs.YtcmlfkoeajpliaaDoor
