/- Walks over an axis. No condition beyond what the theorems state. -/
import Derived.Test.YtcmlfkoeajpliaaDoorAxChain
import Derived.Test.YtcmlfkoeajpliaaDoorNumbers
namespace Go.Proofs.YtcmlfkoeajpliaaDoor
open Go.RowKit Go.Lib Go.Shelf
set_option maxRecDepth 100000
set_option maxHeartbeats 8000000
attribute [local go_sem] Oper.semAt_some
theorem keep_turn {H gn : Nat} {w : World} (W : World) (l : Nat) (o o' : Obj) (hl : w.heap.size ≤ l) (hH : H ≤ w.heap.size) (h : W.heap[l]? = some o) (_ : o.isCells = false) (_ : o.isWalk = false) : Keep H gn W (W.putObj l o') :=
  (Keep.refl H gn W).grown (grownBy_putObj' W l o') (by have := (Array.getElem?_eq_some_iff.1 h).1; omega) (fun b e => by cases e; omega)
theorem own_turn {W W' : World} {base e size k : Nat} {v : Value} {xs : List Value} {row : Option Nat} (h : W.ownsRow base e size v k xs) (hg : W.grownBy W' row) (hrow : ∀ r, row = some r → ∃ o : Obj, W.heap[r]? = some o ∧ o.isCells = false) : W'.ownsRow base e size v k xs := by
  refine h.kept hg ?_
  rcases h.2 with ⟨rfl, _⟩ | ⟨g, cap, cur, rfl, _, hgb, _⟩
  · exact .inl rfl
  · refine .inr fun e' => ?_
    obtain ⟨o, ho, hc⟩ := hrow g (by simpa [Value.ownBlock] using e'.symm)
    rw [hgb] at ho; cases ho; cases hc
theorem GrowI.turn {H gn : Nat} {w0 W W' : World} {A : Option Addr} {c : Nat} {l : List Nat} {row : Option Nat} (h : GrowI H gn w0 W A c l) (hg : W.grownBy W' row) (hrow : ∀ r, row = some r → H ≤ r ∧ ∃ o : Obj, W.heap[r]? = some o ∧ o.isCells = false) : GrowI H gn w0 W' A c l :=
  ⟨h.keep.grown hg h.big (fun b e => (hrow b e).1), Nat.le_trans h.big hg.size, h.lt, own_turn h.own hg (fun r e => (hrow r e).2), h.box.grown hg (fun e => by
    obtain ⟨_, o, ho, hc⟩ := hrow gn e.symm
    rw [show W.heap[gn]? = _ from h.box] at ho; cases ho; cases hc)⟩
/-- A number more in the row. -/
theorem GrowI.more {H gn m : Nat} {w0 W w5 : World} {A A5 : Option Addr} {c c5 : Nat} {l : List Nat} (h : GrowI H gn w0 W A c l) (ho : w5.ownsRow H 3 1 (.slice A5 (l.length + 1) c5) (l.length + 1) (rowI l ++ [.int .i64 (m : Int)])) (hg : (W.alloc (.cells #[.int .i64 (m : Int)] 3)).grownBy w5 (Value.slice A l.length c).ownBlock) :
    GrowI H gn w0 (w5.setCell ⟨gn, 0, none⟩ (.slice A5 (l.length + 1) c5)) A5 c5 (l ++ [m]) ∧ KeepsOthers W (w5.setCell ⟨gn, 0, none⟩ (.slice A5 (l.length + 1) c5)) ∧ Keep H gn W (w5.setCell ⟨gn, 0, none⟩ (.slice A5 (l.length + 1) c5)) ∧ Blk w5 gn 55 #[.slice A l.length c] ∧ Keep H gn W w5 := by
  obtain ⟨h1, h2, h3, h4, h5⟩ := h
  have hlt := h5.lt
  have hne : some gn ≠ (Value.slice A l.length c).ownBlock := fun e => by have := (own_lt h4 e.symm).1; omega
  have hk0 : Keep H gn W w5 := ((Keep.refl H gn W).alloc h2 _).grown hg (by simp; omega) (fun b hb => (own_lt h4 hb).1)
  have hb : Blk w5 gn 55 #[.slice A l.length c] := (h5.alloc _).grown hg hne
  have hsz : W.heap.size + 1 ≤ w5.heap.size := by have := hg.size; simpa using this
  have hln : (l ++ [m]).length = l.length + 1 := by rw [List.length_append]; rfl
  have hrw : rowI (l ++ [m]) = rowI l ++ [.int .i64 (m : Int)] := by unfold rowI; simp
  refine ⟨⟨(h1.trans hk0).set _ _ (.inl rfl), by simp; omega, h3, ?_, ?_⟩, ?_, hk0.set _ _ (.inl rfl), hb, hk0⟩
  · rw [hln, hrw]; exact ownsRow_setCell_below ho (by exact h3) _
  · rw [hln]; exact hb.set_ 0 _
  · refine ((KeepsOthers.alloc W _).trans (KeepsOthers.of_grownBy hg fun j o ej hj => ?_)).trans (KeepsOthers.setCell _ _ _)
    rcases (World.ownsRow.alloc h4 (.cells #[.int .i64 (m : Int)] 3)).2 with ⟨e, _⟩ | ⟨g, cap, cur, e, _, hgb, _⟩
    · rw [e] at ej; simp [Value.ownBlock] at ej
    · rw [e] at ej
      obtain rfl : g = j := by simpa [Value.ownBlock] using ej
      rw [hgb] at hj; cases hj; rfl
/-- What yields an axis keeps its word in a loop that writes one box of the caller's. -/
theorem iter_stops (n : Nat) (hn : 1 ≤ n) {w5 : World} {sb lim : Nat} {A : Option Addr} {c : Nat} {L : List En} {xs : List Nat} {first : Nat} {f : Nat → Nat} {fa : Nat} {fst : Array Value} {b1 b2 gn : Nat} (hS : StoreAt w5 sb lim A c L) (c1 : w5.cell? ⟨b1, 0, none⟩ = some (.int .i64 (first : Int))) (c2 : w5.cell? ⟨b2, 0, none⟩ = some (.func (.func fa) fst #[]))
    (hc : Ch f first xs) (hP : StepP sb lim A c L fa fst f xs) (hsg : sb ≠ gn) (hA : ∀ b, blkOf A = some b → b ≠ gn) (h1 : b1 ≠ gn) (h2 : b2 ≠ gn) :
    SeqStopsK Fence.wide n Tryd.prog 108 #[.pointer (some ⟨b1, 0, none⟩), .pointer (some ⟨b2, 0, none⟩)] (fun x : Nat => #[.int .i64 (x : Int)]) (Keep w5.heap.size gn) (fun ys => ys = xs) (fun pre => pre <+: xs) xs.length w5 := by
  intro l J Jx W hW hJ hJx hY h0
  have l1 : b1 < w5.heap.size := World.block_lt_of_cell? w5 ⟨b1, 0, none⟩ c1
  have l2 : b2 < w5.heap.size := World.block_lt_of_cell? w5 ⟨b2, 0, none⟩ c2
  refine chain_in n l b1 b2 hn fa first fst hP.1 f xs hc (fun W => Keep w5.heap.size gn w5 W ∧ w5.heap.size ≤ W.heap.size) (Keep w5.heap.size gn) (fun x hx W h => hP.2 x hx W (hS.keep h.1 hS.1 hsg (fun b hb => ⟨(StoreAt.lt hS hb).2, hA b hb⟩))) (fun W W' h hb => ⟨h.1.below hb h.2, Nat.le_trans h.2 hb.size⟩) (fun W W' h hk => ⟨h.1.trans hk, Nat.le_trans h.2 hk.2.2.2.1⟩)
    (fun W h => ⟨(h.1.cell (p := ⟨b1, 0, none⟩) l1 h1).trans c1, (h.1.cell (p := ⟨b2, 0, none⟩) l2 h2).trans c2⟩) J Jx W hJ hY h0 ⟨(Keep.refl _ _ _).below hW (Nat.le_refl _), hW.size⟩
end Go.Proofs.YtcmlfkoeajpliaaDoor
namespace Go.Proofs.YtcmlfkoeajpliaaDoor
open Go.RowKit Go.Lib Go.Shelf
set_option maxRecDepth 100000
set_option maxHeartbeats 8000000
attribute [local go_sem] Oper.semAt_some
theorem lawWalk_end {w w5 W : World} {H : Nat} {A : Option Addr} {c D : Nat} {l : List Nat} {o : Obj} (B5 : Below w.heap.size w w5) (hH : w5.heap.size = H) (z5 : w.heap.size + 2 ≤ H) (hG : GrowI H (w.heap.size + 1) w5 W A c l) (hD : H ≤ D) (hK : W.heap[D]? = some (.deferred (some []))) :
    RdP (NewB w (W.putObj D o)) (W.putObj D o) 1 A l.length (rowI l) ∧ Below w.heap.size w (W.putObj D o) := by
  have hbk : Below w.heap.size w5 W := ⟨hG.keep.1, hG.keep.2.1, hG.keep.2.2.1, hG.keep.2.2.2.1, fun b hb => hG.keep.2.2.2.2 b (by omega) (by omega)⟩
  have ho := ownsRow_putObj hG.own o hK rfl
  refine ⟨?_, B5.trans (hbk.trans (belowK_b (w := w5) (by omega) W D _ o (by omega) hK rfl rfl))⟩
  obtain ⟨A0, c0, e0, _, hrd⟩ := own_rd ho
  cases e0
  exact hrd.keep (fun b hb => by have h1 := own_lt ho hb; exact ⟨by omega, h1.2⟩) (fun _ _ => rfl)
theorem lawWalk_any {sb lim : Nat} {A : Option Addr} {c : Nat} {L : List En} {w : World} (hS : StoreAt w sb lim A c L) (hL : L.length ≤ 1048576) (hO : Ord L.length (kdN L) (prN L) (enN L)) (n : Nat) (a : Int) (most : Nat) (hm1 : 1 ≤ most) (xs : List Nat) (hxs : axL L.length (kdN L) (prN L) (enN L) n a = xs) (hxl : xs.length ≤ 1048576) :
    Calls Tryd.prog 37 #[.pointer (some ⟨sb, 0, none⟩), .int .i64 (n : Int), .int .i64 a, .int .i64 (most : Int)] w fun e w' => ∃ A c, e = .returned (.slice A (xs.take most).length c) ∧ RdP (NewB w w') w' 1 A (xs.take most).length (rowI (xs.take most)) ∧ Below w.heap.size w w' := by
  have HW : Hid (∀ w1 : World, Below w.heap.size w w1 → Calls Tryd.prog 65 #[.pointer (some ⟨sb, 0, none⟩), .int .i64 (n : Int), .int .i64 a] w1 fun e w' => ∃ v, e = .returned v ∧ IterV w1 w' sb lim A c L xs v ∧ Below w1.heap.size w1 w') := Lib.hid fun w1 hb1 => by
    rw [← hxs]; exact walk_any (hS.below hb1) hL hO n a
  have hsl := hS.1
  have hAl : ∀ b, blkOf A = some b → b < w.heap.size := fun b hb => (StoreAt.lt hS hb).2
  obtain ⟨i3, hi3, hz30, hz31, hz32⟩ := info_parts int_info
  have HS := Lib.hid hS
  clear hS hxs
  refine (callsIn_wide (n := 8)).1 ?_
  refine callsIn_of_wp_marks Tryd.func37 rfl trivial ?_ rfl
  simp only [Tryd.ntmps37, List.size_toArray, List.length_cons, List.length_nil, Nat.reduceAdd, Nat.reduceSub, Array.replicate_succ, Array.replicate_zero, List.push_toArray, List.append_toArray, List.nil_append, List.cons_append]
  have g1 : decide ((most : Int) < 1) = false := by simp; omega
  gi_wp2_with fail
  refine ⟨trivial, ?_⟩
  refine (callsIn_wide.2 (HW.out _ (ba (ba (Below.refl _ _))))).mono ?_
  rintro e w5 ⟨v, rfl, ⟨first, f, fa, fst, ⟨b1, b2, rfl, hb1, hb2, c1, c2⟩, hc, hP⟩, hb5⟩
  have B5 : Below w.heap.size w w5 := bt (ba (ba (Below.refl _ _))) hb5
  have z5 : w.heap.size + 2 ≤ w5.heap.size := by have := hb5.size; simp at this; omega
  have bM : Blk w5 w.heap.size 3 #[.int .i64 (most : Int)] := ((Blk.new w 3 #[.int .i64 (most : Int)]).alloc _).below hb5 (by simp; omega)
  have bO : Blk w5 (w.heap.size + 1) 55 #[.slice none 0 0] := by
    have := Blk.new (w.alloc (.cells #[.int .i64 (most : Int)] 3)) 55 #[.slice none 0 0]
    rw [World.size_alloc] at this
    exact this.below hb5 (by simp)
  simp at hb1 hb2
  have hS5 := HS.out.below B5
  have HSEQ := Lib.hid (iter_stops 7 (by omega) hS5 c1 c2 hc hP (show sb ≠ w.heap.size + 1 by omega) (fun b hb => by have := hAl b hb; omega) (by omega) (by omega))
  clear hb5 HW
  gi_wp2
  obtain ⟨H, hH⟩ : ∃ H, w5.heap.size = H := ⟨_, rfl⟩
  rw [hH] at z5 HSEQ
  refine wpIn_rangeFunc_ownG rfl (by omega) (gf := 108) (lb := #[.pointer (some ⟨b1, 0, none⟩), .pointer (some ⟨b2, 0, none⟩)]) rfl trivial (enters_of Tryd.func108 (by kernel_rfl) rfl)
    HSEQ.out (fun h k => h.trans k) (fun W l o o' hl h h1 h2 => keep_turn W l o o' hl (by omega) h h1 h2) (Below.refl _ _) (fun _ => rfl)
    (fun pre W => (∃ A c, GrowI H (w.heap.size + 1) w5 W A c pre) ∧ pre.length < most)
    (fun c pre W => c = .exit 0 ∧ (∃ A c, GrowI H (w.heap.size + 1) w5 W A c pre) ∧ pre.length = most)
    ?hI ?hIx ⟨⟨none, 0, ?h0⟩, by simp; omega⟩
    (fun x => { tmps := #[.pointer (some ⟨sb, 0, none⟩), .int .i64 (n : Int), .int .i64 a, .int .i64 (most : Int), undef, undef, undef, .pointer (some ⟨w.heap.size, 0, none⟩), .slice none 0 0, .pointer (some ⟨w.heap.size + 1, 0, none⟩), .int .i64 (x : Int), .int .i64 (most : Int), .bool false, .pointer (some ⟨sb, 0, none⟩), .int .i64 (n : Int), .int .i64 a, .func (.func 108) #[] #[.pointer (some ⟨b1, 0, none⟩), .pointer (some ⟨b2, 0, none⟩)], .int .i64 (x : Int), undef, undef, undef, undef, undef, undef, undef, undef, undef], defers := [] }) ?assign ?body ?done ?stop
  case hI =>
    rintro s W W' row ⟨⟨A1, c1, hG⟩, h2⟩ hg hr
    exact ⟨⟨A1, c1, hG.turn hg (by rw [hH] at hr; exact hr)⟩, h2⟩
  case hIx =>
    rintro c s W W' row ⟨h1, ⟨A1, c1, hG⟩, h2⟩ hg hr
    exact ⟨h1, ⟨A1, c1, hG.turn hg (by rw [hH] at hr; exact hr)⟩, h2⟩
  case h0 =>
    exact ⟨Keep.refl _ _ _, by omega, by omega, World.ownsRow_nil _ _ _ _, bO⟩
  case assign =>
    intro l x W K hK
    gi_wp2
    exact hK
  case body =>
    rintro l pre x W ⟨⟨A1, c1', hG⟩, hlm⟩ hlt
    have hG' := Lib.hid hG
    have hc0 := hG.box.cell 0
    have hf0 := hG.box.frozen 0
    simp only [List.getElem?_toArray, List.getElem?_cons_zero] at hc0
    have hcM := (hG.keep.cell (p := ⟨w.heap.size, 0, none⟩) (show w.heap.size < H by omega) (show w.heap.size ≠ w.heap.size + 1 by omega)).trans (bM.cell 0)
    simp only [List.getElem?_toArray, List.getElem?_cons_zero] at hcM
    have hrow := hG.own
    have hbig := hG.big
    clear hG
    gi_wp2_with (first
      | (gi_at_builtin; refine wpListIn_append_own _ rfl _ _ 55 rfl H 3 i3 (.int .i64 0) 1 8 Tryd.underlying55 hi3 hz30 hz31 hz32 rfl (by decide) _ _ _ rfl (World.ownsRow.alloc hrow _) ⟨W.heap.size, 0, none⟩ 1 1 [.int .i64 (x : Int)] rfl rfl (cell_one_new _ _ _) (by simp [Value.oneCell']) (by simp only [maxLen]; omega) (by omega) (by simp; omega) ?_; intro v' w1 hown' hgrow _; obtain ⟨g', cap', rfl⟩ := ownsRow_succ hown'; obtain ⟨q1, q2, q3, q4, q5⟩ := hG'.out.more hown' hgrow; have hc1 := q4.cell 0; have hf1 := q4.frozen 0; simp only [List.getElem?_toArray, List.getElem?_cons_zero] at hc1; have hM1 := (q5.cell (p := ⟨w.heap.size, 0, none⟩) (show w.heap.size < H by omega) (show w.heap.size ≠ w.heap.size + 1 by omega)).trans hcM; have Q1 := Lib.hid q1; have Q2 := Lib.hid q2; have Q3 := Lib.hid q3; clear q1 q2 q3 q4 q5 hown' hgrow))
    · exact ⟨Q2.out.from _, rfl, ⟨_, _, Q1.out⟩, by simp; omega⟩
    · exact ⟨Q2.out.from _, Q3.out, ⟨_, _, Q1.out⟩, by simp; omega⟩
  case done =>
    rintro D ys W hD rfl ⟨⟨A1, c1', hG⟩, hlm⟩ hK
    have hc0 := hG.box.cell 0
    simp only [List.getElem?_toArray, List.getElem?_cons_zero] at hc0
    have HF := Lib.hid (fun (o : Obj) => lawWalk_end (w := w) (o := o) B5 hH z5 hG (by omega) hK)
    have E : Hid (ys.take most = ys) := Lib.hid (List.take_of_length_le (by omega))
    clear hG
    gi_wp2
    refine ⟨by simp, .inl ⟨_, _, rfl, run_takeDeferred hK, ?_⟩⟩
    refine ⟨_, results_tmp rfl _ _ _, ?_⟩
    rw [E.out]
    exact ⟨A1, c1', rfl, (HF.out _).1, (HF.out _).2⟩
  case stop =>
    rintro D c pre W hD hpre ⟨rfl, ⟨A1, c1', hG⟩, hlm⟩ hK
    have hc0 := hG.box.cell 0
    simp only [List.getElem?_toArray, List.getElem?_cons_zero] at hc0
    have HF := Lib.hid (fun (o : Obj) => lawWalk_end (w := w) (o := o) B5 hH z5 hG (by omega) hK)
    have E : Hid (xs.take most = pre) := Lib.hid (by rw [← hlm]; exact (List.prefix_iff_eq_take.1 hpre).symm)
    clear hG hlm
    gi_wp2
    refine ⟨by simp, .inl ⟨_, _, rfl, run_takeDeferred hK, ?_⟩⟩
    refine ⟨_, results_tmp rfl _ _ _, ?_⟩
    rw [E.out]
    exact ⟨A1, c1', rfl, (HF.out _).1, (HF.out _).2⟩
end Go.Proofs.YtcmlfkoeajpliaaDoor
